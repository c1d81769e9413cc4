/-
  Contracts of package split's Join, and of the document's, each proved over this seat's translation.
  Conditions: at most 1,000 frames, of payloads of at most 300 bytes.
-/
import Derived.Test.YtaleennijfefnaaGreatSplitMem
import Derived.Test.YtaleennijfefnaaGreatBuild
import Derived.Test.YtaleennijfefnaaGreatFrameEnc
import Derived.Test.YtaleennijfefnaaGreatRefFrame3
namespace Go.Proofs.YtaleennijfefnaaGreat
open Go.RowKit

set_option maxRecDepth 100000 in
set_option maxHeartbeats 4000000 in
theorem join8_any (w : World) (ao : Option Addr) (cap : Nat) (l : List Fr) (hl : l.length ≤ 1000) (h3 : ∀ f ∈ l, f.p.size ≤ 300) (hc : FramesAt w ao l) :
    Calls Tryz.prog 14 #[.slice ao l.length cap] w fun e w' => e = .returned (.tuple #[.string (jAll l).1, .int .i64 ((jAll l).2.1 : Int), .int .i64 (jAll l).2.2]) ∧ Keep0 w w' := by
  have HC : Hid (FramesAt w ao l) := hc
  have H3 : Hid (∀ f ∈ l, f.p.size ≤ 300) := h3
  have HL : Hid (l.length ≤ 1000) := hl
  have hl' : (l.length : Int) ≤ 9223372036854775807 := by omega
  have HE : Hid (∀ {A : ByteArray} {N : Nat} {E : Int}, jAll l = (A, N, E) → (jAll l).1 = A ∧ (jAll l).2.1 = N ∧ (jAll l).2.2 = E) := fun h => by rw [h]; exact ⟨rfl, rfl, rfl⟩
  generalize hTX : (jAll l).1 = TX at *
  generalize hPL : (jAll l).2.1 = PL at *
  generalize hER : (jAll l).2.2 = ER at *
  clear hTX hPL hER hc h3 hl
  go_enter Tryz.func14, Tryz.ntmps14
  go_wp2_with fail
  refine (newcoder_any _).mono ?_
  rintro e w1 ⟨rfl, c1, k1⟩
  generalize hkb : w.heap.size = kb at *
  generalize hKV : kptr (some kb) = KV
  have HKV : Hid (kptr (some kb) = KV) := hKV
  clear hKV
  have s1 : kb < w1.heap.size := c1.lt
  have b2 := Bld.new w1
  have k2 := k1.alloc (.cells #[.pointer none, .slice none 0 0] 60)
  have c2 := c1.keep0 ((Keep.refl (fun _ => False) w1).alloc (.cells #[.pointer none, .slice none 0 0] 60))
  have s2 : w1.heap.size < (w1.alloc (.cells #[.pointer none, .slice none 0 0] 60)).heap.size := by rw [World.size_alloc]; omega
  clear k1 c1
  go_wp2_with fail
  generalize w1.alloc (.cells #[.pointer none, .slice none 0 0] 60) = w2 at *
  generalize w1.heap.size = b at *
  go_loopw [14] (fun i wr => ∃ (k : Nat) (t : ByteArray), i = .int .i64 (k : Int) ∧ k ≤ l.length ∧ JAt l k t ∧ Bld wr b b t ∧ CoderAt wr (some kb) ∧ Keep0 w wr ∧ b < wr.heap.size) (fun i _ => l.length - (intOf i).toNat)
  case atStart => exact ⟨0, ⟨#[]⟩, rfl, by omega, JAt.zero l, b2, c2, k2, s2⟩
  case round =>
    obtain ⟨k, t, rfl, hk, hJ, hB, hC, hK, hz⟩ := hrel
    clear b2 k2 c2 s2
    have HJ : Hid (JAt l k t) := hJ
    have hts := hJ.size
    have hl := HL.out
    clear hJ
    by_cases hlt : k < l.length
    · have i1 : (k : Int) < l.length := by omega
      obtain ⟨bb, off, rfl, x0, x1, x2⟩ := HC.out k hlt
      have x0 := hK.cell x0 (fun f => f)
      have x1 := hK.cell x1 (fun f => f)
      have x2 := hK.cell x2 (fun f => f)
      have h3 := H3.out l[k] (List.getElem_mem hlt)
      have ye := fun W (h : CoderAt W (some kb)) => encode7_any h l[k].v l[k].k l[k].p (by unfold maxLen; omega)
      rw [HKV.out] at ye
      unfold fr at ye
      by_cases h0 : eErr7 l[k].v l[k].p = 0
      · have HM : Hid (JAt l (k + 1) (t ++ l[k].enc)) := HJ.out.more hlt h3 h0
        have hen := enc_size h3
        have e1 : eTxt7 l[k].v l[k].k l[k].p = l[k].enc := if_pos h0
        rw [h0, e1] at ye
        generalize l[k].enc = F at *
        generalize (l[k].v.toNat : Int) = V at *
        generalize (l[k].k.toNat : Int) = KD at *
        generalize l[k].p = T at *
        have yw := fun W (h : Bld W b b t) (hB : b ≤ W.heap.size) => bwrite_any h hB F (by omega)
        clear h0 e1 HE h3
        have f3 := FrAt.new wr V KD T 31
        have k3 : Keep0 wr (wr.alloc (.cells #[.int .u8 V, .int .u8 KD, .string T] 31)) := (Keep.refl _ wr).alloc _
        have hB3 := hB.keep k3 (fun _ _ f => f)
        have c3 := hC.keep0 k3
        have K3 := hK.trans k3
        have z3 := k3.size
        obtain ⟨d0, d1, d2, d3, d4, d5⟩ := f3.cells
        clear d3 d4 d5 f3 k3 hB hC hK
        go_wp2_with fail
        generalize wr.alloc (.cells #[.int .u8 V, .int .u8 KD, .string T] 31) = w3 at *
        generalize wr.heap.size = g3 at *
        refine (ye _ c3).mono ?_
        rintro e w4 ⟨rfl, c4, k4⟩
        have k4' : Keep (fun k => k = kb) w3 w4 := k4.mono (fun i _ hh => by cases hh; rfl)
        have hB4 := hB3.keep k4' (fun k hk => by omega)
        have K4 : Keep0 w w4 := K3.step k4' (fun i hi hh => by omega)
        have z4 : b ≤ w4.heap.size := by have := k4.size; omega
        clear ye k4 k4' c3 hB3 K3 z3 x0 x1 x2 d0 d1 d2
        go_wp2_with fail
        refine (yw _ hB4 z4).mono ?_
        rintro e w5 ⟨rfl, hB5, k5⟩
        have c5 := c4.keep k5 (fun b hb hh => by cases hb; omega)
        have K5 : Keep0 w w5 := K4.step k5 (fun i hi hh => by omega)
        have z5 : b < w5.heap.size := hB5.lt
        clear yw hB4 c4 K4 z4 k5
        go_wp2
        go_roundw
        case rel => exact ⟨k + 1, t ++ F, by go_num, by omega, HM.out, hB5, c5, K5, z5⟩
        case measure => simp [intOf]; omega
      · obtain ⟨e1, e2, e3⟩ := HE.out (HJ.out.bad hlt h0)
        have e4 : eTxt7 l[k].v l[k].k l[k].p = ⟨#[]⟩ := if_neg h0
        have e0 : (eErr7 l[k].v l[k].p != 0) = true := by simpa using h0
        rw [e4] at ye
        rw [← e3] at ye e0
        generalize (l[k].v.toNat : Int) = V at *
        generalize (l[k].k.toNat : Int) = KD at *
        generalize l[k].p = T at *
        subst e1
        subst e2
        clear h0 e3 e4 HE h3
        have f3 := FrAt.new wr V KD T 31
        have k3 : Keep0 wr (wr.alloc (.cells #[.int .u8 V, .int .u8 KD, .string T] 31)) := (Keep.refl _ wr).alloc _
        have c3 := hC.keep0 k3
        have K3 := hK.trans k3
        obtain ⟨d0, d1, d2, d3, d4, d5⟩ := f3.cells
        clear d3 d4 d5 f3 k3 hB hC hK
        go_wp2_with fail
        generalize wr.alloc (.cells #[.int .u8 V, .int .u8 KD, .string T] 31) = w3 at *
        generalize wr.heap.size = g3 at *
        refine (ye _ c3).mono ?_
        rintro e w4 ⟨rfl, c4, k4⟩
        have K4 : Keep0 w w4 := K3.step k4 (fun i hi hh => by cases hh; omega)
        clear ye k4 c3 c4 K3 x0 x1 x2 d0 d1 d2
        go_wp2
        go_ret3
        exact ⟨rfl, K4⟩
    · have i1 : ¬ (k : Int) < l.length := by omega
      obtain rfl : k = l.length := by omega
      obtain ⟨e1, e2, e3⟩ := HE.out HJ.out.done
      subst e1
      subst e2
      subst e3
      clear HE
      go_wp2_with fail
      refine (bstring_any hB (by omega)).mono ?_
      rintro e w4 ⟨rfl, k4⟩
      have K4 : Keep0 w w4 := hK.step k4 (fun i hi hh => by omega)
      clear k4 hB hC hK
      go_wp2
      go_ret3
      exact ⟨rfl, K4⟩
set_option maxRecDepth 100000 in
set_option maxHeartbeats 4000000 in
theorem rjoin8_any (w : World) (ao : Option Addr) (cap : Nat) (l : List Fr) (hl : l.length ≤ 1000) (h3 : ∀ f ∈ l, f.p.size ≤ 300) (hc : FramesAt w ao l) :
    Calls Tryz.prog 15 #[.slice ao l.length cap] w fun e w' => e = .returned (.tuple #[.string (jAll l).1, .int .i64 ((jAll l).2.1 : Int), .int .i64 (jAll l).2.2]) ∧ Keep0 w w' := by
  have HC : Hid (FramesAt w ao l) := hc
  have H3 : Hid (∀ f ∈ l, f.p.size ≤ 300) := h3
  have HL : Hid (l.length ≤ 1000) := hl
  have hl' : (l.length : Int) ≤ 9223372036854775807 := by omega
  have HE : Hid (∀ {A : ByteArray} {N : Nat} {E : Int}, jAll l = (A, N, E) → (jAll l).1 = A ∧ (jAll l).2.1 = N ∧ (jAll l).2.2 = E) := fun h => by rw [h]; exact ⟨rfl, rfl, rfl⟩
  generalize hTX : (jAll l).1 = TX at *
  generalize hPL : (jAll l).2.1 = PL at *
  generalize hER : (jAll l).2.2 = ER at *
  clear hTX hPL hER hc h3 hl
  go_enter Tryz.func15, Tryz.ntmps15
  go_wp2_with fail
  go_loopw [5, 6] (fun s i wr => ∃ (k : Nat) (t : ByteArray), s = .string t ∧ i = .int .i64 (k : Int) ∧ k ≤ l.length ∧ JAt l k t ∧ Keep0 w wr) (fun _ i _ => l.length - (intOf i).toNat)
  case atStart => exact ⟨0, ⟨#[]⟩, rfl, rfl, by omega, JAt.zero l, Keep.refl _ w⟩
  case round =>
    obtain ⟨k, t, rfl, rfl, hk, hJ, hK⟩ := hrel
    have HJ : Hid (JAt l k t) := hJ
    have hts := hJ.size
    have hl := HL.out
    clear hJ
    by_cases hlt : k < l.length
    · have i1 : (k : Int) < l.length := by omega
      obtain ⟨bb, off, rfl, x0, x1, x2⟩ := HC.out k hlt
      have x0 := hK.cell x0 (fun f => f)
      have x1 := hK.cell x1 (fun f => f)
      have x2 := hK.cell x2 (fun f => f)
      have h3 := H3.out l[k] (List.getElem_mem hlt)
      have ye := fun W => rencode7_any W l[k].v l[k].k l[k].p (by unfold maxLen; omega)
      unfold fr at ye
      by_cases h0 : eErr7 l[k].v l[k].p = 0
      · have HM : Hid (JAt l (k + 1) (t ++ l[k].enc)) := HJ.out.more hlt h3 h0
        have hen := enc_size h3
        have e1 : eTxt7 l[k].v l[k].k l[k].p = l[k].enc := if_pos h0
        rw [h0, e1] at ye
        generalize l[k].enc = F at *
        generalize (l[k].v.toNat : Int) = V at *
        generalize (l[k].k.toNat : Int) = KD at *
        generalize l[k].p = T at *
        have i2 : ¬ 9223372036854775807 < t.size + F.size := by omega
        clear h0 e1 HE h3
        go_wp2_with fail
        refine (ye _).mono ?_
        rintro e w4 ⟨rfl, k4⟩
        have K4 := hK.trans k4
        clear ye k4 x0 x1 x2 hK
        go_wp2
        go_roundw
        case rel => exact ⟨k + 1, t ++ F, rfl, by go_num, by omega, HM.out, K4⟩
        case measure => simp [intOf]; omega
      · obtain ⟨e1, e2, e3⟩ := HE.out (HJ.out.bad hlt h0)
        have e4 : eTxt7 l[k].v l[k].k l[k].p = ⟨#[]⟩ := if_neg h0
        have e0 : (eErr7 l[k].v l[k].p != 0) = true := by simpa using h0
        rw [e4] at ye
        rw [← e3] at ye e0
        generalize (l[k].v.toNat : Int) = V at *
        generalize (l[k].k.toNat : Int) = KD at *
        generalize l[k].p = T at *
        subst e1
        subst e2
        clear h0 e3 e4 HE h3
        go_wp2_with fail
        refine (ye _).mono ?_
        rintro e w4 ⟨rfl, k4⟩
        have K4 := hK.trans k4
        clear ye k4 x0 x1 x2 hK
        go_wp2
        go_ret3
        exact ⟨rfl, K4⟩
    · have i1 : ¬ (k : Int) < l.length := by omega
      obtain rfl : k = l.length := by omega
      obtain ⟨e1, e2, e3⟩ := HE.out HJ.out.done
      subst e1
      subst e2
      subst e3
      clear HE
      go_wp2
      go_ret3
      exact ⟨rfl, hK⟩
end Go.Proofs.YtaleennijfefnaaGreat
