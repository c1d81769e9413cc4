/-
  What this seat's claims lean on of the texts OlB.
  Conditions: as each theorem states.
-/
import Derived.WalkKit
import Derived.ProofKit
import Derived.Below
import Derived.Deep.Draws
import Derived.Deep.RegionHeld
import Derived.Test.YtmllchembkpdkaaChecked
import Derived.OpenShut
import Derived.ShutString
import Derived.WalkSpells
import Derived.WalkLawsBesides
import Derived.Deep.QuietTactic
import Derived.BigQuiet
import Derived.Laws.Bits64b
import Derived.PlainAid
import Derived.Lib.AppendStr
import Derived.Deep.AppendLies
import Derived.Laws.IdiomStrings
import Derived.Laws.BytesArg
import Derived.Deep.RegionWith
import Derived.Laws.AppendOwn
import Derived.Deep.DeepAppendWide
import Derived.Deep.Upon
import Derived.Maps.AppendAt
import Derived.Deep.Slices
import Derived.Test.YtmllchembkpdkaaZ40
import Derived.Test.YtmllchembkpdkaaZ37
import Derived.Test.YtmllchembkpdkaaZ25
namespace Go.Proofs.Ytmllchembkpdkaa
open Go.RowKit
theorem wCount_err17 {M m : Int} {t : ByteArray} {x n : Int} (h : x ≠ 0) : wCount M m (t, x) n = (t, x) := by
  unfold wCount pFail
  rw [if_neg h, if_neg h, pOne_err h]
  split
  · rfl
  · split <;> rfl
theorem pOs_err17 {M : Int} {t : ByteArray} {x : Int} (h : x ≠ 0) (y : Os) : pOs M (t, x) y = (t, x) := by
  unfold pOs
  rw [pVec_err h, wFlag_err h, wPut_err h]
theorem pOss_err17 {M : Int} {t : ByteArray} {x : Int} (h : x ≠ 0) : ∀ l, pOss M (t, x) l = (t, x)
  | [] => rfl
  | y :: l => by
    show pOss M (pOs M (t, x) y) l = _
    rw [pOs_err17 h]
    exact pOss_err17 h l
theorem pOs_size17 (M : Int) (q : ByteArray × Int) {x : Os} (h : Oks x) : (pOs M q x).1.size ≤ q.1.size + 1003400 := by
  have h1 := pVec_size M q (fun y hy => (h.1.2 y hy).2)
  have h2 := wFlag_size M (pVec M q x.c) x.d
  have h3 := wPut_size M 32768 (wFlag M (pVec M q x.c) x.d) x.v (by have := h.2; omega)
  have h4 := h.2
  unfold pOs
  omega
theorem pOss_size17 (M : Int) : ∀ (l : List Os) (p : ByteArray × Int), (∀ x ∈ l, Oks x) → (pOss M p l).1.size ≤ p.1.size + 1003400 * l.length
  | [], _, _ => by show _ ≤ _ + 1003400 * 0; exact Nat.le_refl _
  | v :: l, p, h => by
    have h1 := pOs_size17 M p (h v List.mem_cons_self)
    have h2 := pOss_size17 M l (pOs M p v) (fun k hk => h k (List.mem_cons_of_mem _ hk))
    show (pOss M (pOs M p v) l).1.size ≤ _
    rw [List.length_cons]
    omega
theorem encL_chain (o : Ol) (hu : ∀ x ∈ o.l, osU x) {R : ByteArray × Int} (hR : pOss 65536 (wCount 65536 16 (wPut 65536 128 (⟨#[]⟩, olCheck o) o.key) (o.l.length : Int)) o.l = R) : (pEnd R.1 R.2, R.2) = encL o := by
  subst hR
  by_cases h0 : olCheck o = 0
  · obtain ⟨h1, _⟩ := olCheck_zero.1 h0
    have h1 := outS_zero.1 h1
    rw [h0, wCount_fit17 (by rw [pMax16]; omega)]
    exact encL_pen h0 hu
  · rw [wPut_err h0, wCount_err17 h0, pOss_err17 h0]
    unfold encL pEnd
    rw [if_neg h0, if_neg h0]
set_option maxRecDepth 100000 in
set_option maxHeartbeats 8000000 in
theorem putSib17_any {w : World} {b r : Nat} {t : ByteArray} {M x : Int} (h : Pen w b r t M x) (ht : t.size ≤ 200000000) (vo : Option Addr) (vc : Nat) (c : List En) (d : Bool) (v : ByteArray) (ok : Ok10 c) (hv : v.size ≤ 1000000) (hc : EnsAt w vo c) (hap : 0 < c.length → ApartE (two b r) vo) :
    Calls Try.prog 24 #[pptr b, .agg #[.slice vo c.length vc, .bool d, .string v]] w fun e w' => e = .returned (.tuple #[]) ∧ PenAfter w w' b r M (pOs M (t, x) ⟨c, d, v⟩) := by
  have hbl := h.lt
  have hrl := h.rlt
  have kB : Keep0 w ((w.alloc (.cells #[.slice vo c.length vc, .bool d, .string v] 47)).alloc (.cells #[.slice vo c.length vc] 45)) := ((Keep.refl _ w).alloc _).alloc _
  have qB : TAt ((w.alloc (.cells #[.slice vo c.length vc, .bool d, .string v] 47)).alloc (.cells #[.slice vo c.length vc] 45)) w.heap.size (.slice vo c.length vc) (.bool d) (.string v) := (TAt.new w 47 _ _ _).keep0 ((Keep.refl _ _).alloc _)
  have z1 : ((w.alloc (.cells #[.slice vo c.length vc, .bool d, .string v] 47)).alloc (.cells #[.slice vo c.length vc] 45)).heap.size = w.heap.size + 2 := by rw [World.size_alloc, World.size_alloc]
  have yv : Calls Try.prog 51 #[pptr b, .slice (some ⟨w.heap.size + 1, 0, none⟩) 1 1] ((w.alloc (.cells #[.slice vo c.length vc, .bool d, .string v] 47)).alloc (.cells #[.slice vo c.length vc] 45)) fun e w' => e = .returned (.tuple #[]) ∧ ∃ r', Pen w' b r' (pVec M (t, x) c).1 M (pVec M (t, x) c).2 ∧ Keep (two b r) ((w.alloc (.cells #[.slice vo c.length vc, .bool d, .string v] 47)).alloc (.cells #[.slice vo c.length vc] 45)) w' ∧ (r' = r ∨ ((w.alloc (.cells #[.slice vo c.length vc, .bool d, .string v] 47)).alloc (.cells #[.slice vo c.length vc] 45)).heap.size ≤ r') := by
    refine put11g (some ⟨w.heap.size + 1, 0, none⟩) 1 [c] (h.keep0 kB) (by omega) (by show 1 ≤ 100; decide) (fun y hy => by rw [List.mem_singleton.1 hy]; exact ok) ?_
    intro i hi
    obtain rfl : i = 0 := by simpa using hi
    refine ⟨w.heap.size + 1, 0, vo, vc, rfl, by unfold two; omega, ?_, hc.keep0 kB, fun hl => hap hl⟩
    have := cell_alloc (w.alloc (.cells #[.slice vo c.length vc, .bool d, .string v] 47)) (c := #[.slice vo c.length vc]) 45 (i := 0) rfl
    rw [World.size_alloc] at this
    exact this
  have hvs := pVec_size M (t, x) (fun y hy => (ok.2 y hy).2)
  have hts : (t, x).1.size = t.size := rfl
  have yg := fun W r1 (h : Pen W b r1 (pVec M (t, x) c).1 M (pVec M (t, x) c).2) => pflag6_any d h (by omega)
  have hE1 : ((pVec M (t, x) c).1, (pVec M (t, x) c).2) = pVec M (t, x) c := rfl
  rw [hE1] at yg
  have hfs := wFlag_size M (pVec M (t, x) c) d
  have hP : pOs M (t, x) ⟨c, d, v⟩ = wPut M 32768 (wFlag M (pVec M (t, x) c) d) v := rfl
  rw [hP]
  obtain ⟨P2, hP2⟩ : ∃ P2, wFlag M (pVec M (t, x) c) d = P2 := ⟨_, rfl⟩
  rw [hP2] at yg hfs ⊢
  have yb := fun W r2 (h : Pen W b r2 P2.1 M P2.2) => bput_one11 h 32768 (by decide) v (by unfold maxLen; omega) (by omega) 9 _ rfl
  have hE3 : (P2.1, P2.2) = P2 := rfl
  rw [hE3] at yb
  generalize wPut M 32768 P2 v = P3 at *
  have HB : Hid (∀ W r', Pen W b r' P3.1 M P3.2 → Keep (two b r) w W → (r' = r ∨ w.heap.size ≤ r') → PenAfter w W b r M P3) := fun W r' h1 h2 h3 => ⟨r', h1, h2, h3⟩
  generalize pVec M (t, x) c = P1 at *
  clear hvs hts hfs hE1 hE3 hP hP2 ok hc hap h ht hv
  obtain ⟨x0, x1, x2, f0, f1, f2⟩ := qB.cells
  obtain ⟨u0, -⟩ := (TAt.new w 47 (.slice vo c.length vc) (.bool d) (.string v)).cells
  go_enter Try.func24, Try.ntmps24
  go_wp2_with fail
  generalize ((w.alloc (.cells #[.slice vo c.length vc, .bool d, .string v] 47)).alloc (.cells #[.slice vo c.length vc] 45)) = W0 at *
  obtain ⟨g, hg⟩ : ∃ g, w.heap.size = g := ⟨_, rfl⟩
  have HG : Hid (w.heap.size = g) := hg
  rw [hg] at qB z1 hbl hrl yv ⊢
  have n0 : ¬ two b r g := by unfold two; omega
  refine yv.mono ?_
  rintro e w1 ⟨rfl, r1, h1, k1, hr1⟩
  have K1 : Keep (two b r) w w1 := (kB.any (R := two b r)).trans k1
  have q1 := qB.keep k1 n0
  have s1 := k1.size
  have m1 : ¬ two b r1 g := by unfold two; omega
  have hr1' : r1 = r ∨ g ≤ r1 := by omega
  have yg := yg _ _ h1
  clear yv kB x0 x1 x2 f0 f1 f2 u0 qB h1 hg k1
  obtain ⟨x0, x1, x2, f0, f1, f2⟩ := q1.cells
  go_wp2_with fail
  refine yg.mono ?_
  rintro e w2 ⟨rfl, r2, h2, k2, hr2⟩
  have K2 : Keep (two b r) w w2 := K1.step k2 (fun i hi hh => by have := HG.out; unfold two at hh ⊢; omega)
  have q2 := q1.keep k2 m1
  have s2 := k2.size
  have m2 : ¬ two b r2 g := by unfold two; omega
  have hr2' : r2 = r ∨ g ≤ r2 := by omega
  clear yg k2 K1 q1 x0 x1 x2 f0 f1 f2
  obtain ⟨x0, x1, x2, f0, f1, f2⟩ := q2.cells
  have yb := yb _ _ h2
  go_wp2_with fail
  refine yb.mono ?_
  rintro e w3 ⟨rfl, r3, h3, k3, hr3⟩
  have K3 : Keep (two b r) w w3 := K2.step k3 (fun i hi hh => by have := HG.out; unfold two at hh ⊢; omega)
  clear yb k3 K2 q2 x0 x1 x2 f0 f1 f2
  go_wp2
  go_end0
  exact ⟨rfl, HB.out _ _ h3 K3 (by have := HG.out; omega)⟩
theorem putSib17 {w : World} {b r : Nat} {t : ByteArray} {M x : Int} (h : Pen w b r t M x) (ht : t.size ≤ 200000000) (p : Po) (ok : Oks p.x) (hc : EnsAt w p.vo p.x.c) (hap : 0 < p.x.c.length → ApartE (two b r) p.vo) :
    Calls Try.prog 24 #[pptr b, .agg #[.slice p.vo p.x.c.length p.vc, .bool p.x.d, .string p.x.v]] w fun e w' => e = .returned (.tuple #[]) ∧ PenAfter w w' b r M (pOs M (t, x) p.x) :=
  putSib17_any h ht p.vo p.vc p.x.c p.x.d p.x.v ok.1 ok.2 hc hap
set_option maxRecDepth 100000 in
set_option maxHeartbeats 8000000 in
theorem encode17 (w : World) (key : ByteArray) (ao : Option Addr) (cap : Nat) (L : List Po) (ok : Ok17 key L) (hcap : L.length ≤ cap) (hcap2 : cap ≤ maxLen) (hc : PosAt w ao L) :
    Calls Try.prog 9 #[.agg #[.string key, .slice ao L.length cap]] w fun e w' => e = .returned (.tuple #[.string (encL ⟨key, L.map Po.x⟩).1, .int .i64 (encL ⟨key, L.map Po.x⟩).2]) ∧ Keep0 w w' := by
  have hkl := ok.key
  have hll := ok.len
  have i1 : (L.length : Int) ≤ 9223372036854775807 := by omega
  have kA : Keep0 w (w.alloc (.cells #[.string key, .slice ao L.length cap] 24)) := (Keep.refl _ w).alloc _
  have q0 := DAt.new w 24 (.string key) (.slice ao L.length cap)
  have z0 : (w.alloc (.cells #[.string key, .slice ao L.length cap] 24)).heap.size = w.heap.size + 1 := by rw [World.size_alloc]
  have yn := pnew_any (w.alloc (.cells #[.string key, .slice ao L.length cap] 24)) 65536 (by decide)
  have hpm : pMax 65536 = 65536 := rfl
  rw [hpm, z0] at yn
  have yc := fun W (K : Keep0 w W) => check17 W key ao cap L ok hcap hcap2 (hc.keep0 K)
  have elm : (L.map Po.x).length = L.length := List.length_map ..
  have hch := fun R => encL_chain ⟨key, L.map Po.x⟩ ok.u (R := R)
  obtain ⟨C, hC⟩ : ∃ C, olCheck ⟨key, L.map Po.x⟩ = C := ⟨_, rfl⟩
  rw [hC] at hch
  simp only [hC] at yc
  have hch : ∀ R, pOss 65536 (wCount 65536 16 (wPut 65536 128 (⟨#[]⟩, C) key) ((L.map Po.x).length : Int)) (L.map Po.x) = R → (pEnd R.1 R.2, R.2) = encL ⟨key, L.map Po.x⟩ := hch
  rw [elm] at hch
  obtain ⟨EL, hEL⟩ : ∃ z, encL ⟨key, L.map Po.x⟩ = z := ⟨_, rfl⟩
  rw [hEL] at hch ⊢
  have yf := fun W r' (h : Pen W (w.heap.size + 1) r' ⟨#[]⟩ 65536 0) => pfail_any C h
  have hpf : pFail 0 C = C := rfl
  rw [hpf] at yf
  have hp0 := wPut_size 65536 128 (⟨#[]⟩, C) key (by omega)
  have yk := fun W r' (h : Pen W (w.heap.size + 1) r' ⟨#[]⟩ 65536 C) => bput_one11 h 128 (by decide) key (by unfold maxLen; omega) (by show 0 + key.size + 10 ≤ _; omega) 9 _ rfl
  have hz0 : ((⟨#[]⟩ : ByteArray), C).1.size = 0 := rfl
  obtain ⟨P1, hP1⟩ : ∃ z, wPut 65536 128 (⟨#[]⟩, C) key = z := ⟨_, rfl⟩
  rw [hP1] at hp0 yk hch
  have yt := fun W r' (h : Pen W (w.heap.size + 1) r' P1.1 65536 P1.2) => pcount6_any 16 (L.length : Int) (by decide) i1 h (by omega)
  have hE1 : (P1.1, P1.2) = P1 := rfl
  rw [hE1] at yt
  have hp2 := wCount_size 65536 16 P1 (L.length : Int) (by omega)
  obtain ⟨P2, hP2⟩ : ∃ z, wCount 65536 16 P1 (L.length : Int) = z := ⟨_, rfl⟩
  rw [hP2] at yt hp2 hch
  have HS : Hid (∀ k, (pOss 65536 P2 ((L.map Po.x).take k)).1.size ≤ 200000000) := by
    intro k
    have h1 := pOss_size17 65536 ((L.map Po.x).take k) P2 (fun x hx => by
      obtain ⟨p, hp, rfl⟩ := List.mem_map.1 (List.mem_of_mem_take hx)
      exact ok.s p hp)
    have h2 : ((L.map Po.x).take k).length ≤ 100 := by rw [List.length_take]; omega
    omega
  have HE : Hid (∀ R, pOss 65536 P2 (L.map Po.x) = R → (pEnd R.1 R.2, R.2) = EL) := hch
  have HC : Hid (PosAt w ao L) := hc
  have HF : Hid (∀ p ∈ L, Oks p.x) := ok.s
  have HM : Hid ((L.map Po.x).length = L.length) := elm
  have hk0 := hc
  clear hpm hC hch hEL hpf hp0 hP1 hE1 hp2 hP2 hz0 elm hc ok hk0 hcap hcap2 hll hkl
  obtain ⟨x0, x1, f0, f1⟩ := q0.cells
  go_enter Try.func9, Try.ntmps9
  go_wp2_with fail
  generalize (w.alloc (.cells #[.string key, .slice ao L.length cap] 24)) = W0 at *
  obtain ⟨g, hg⟩ : ∃ g, w.heap.size = g := ⟨_, rfl⟩
  have HG : Hid (w.heap.size = g) := hg
  rw [hg] at q0 z0 yn yf yk yt x0 x1 f0 f1 ⊢
  obtain ⟨b, hb⟩ : ∃ b, g + 1 = b := ⟨_, rfl⟩
  rw [hb] at z0 yn yf yk yt
  have HB : Hid (g + 1 = b) := hb
  refine yn.mono ?_
  rintro e w1 ⟨rfl, h1, k1⟩
  have K1 := kA.trans k1
  have q1 := q0.keep0 k1
  have yc := yc _ K1
  clear yn kA k1 q0 x0 x1 f0 f1 hg hb z0
  obtain ⟨x0, x1, f0, f1⟩ := q1.cells
  go_wp2_with fail
  refine yc.mono ?_
  rintro e w2 ⟨rfl, k2⟩
  have K2 := K1.trans k2
  have q2 := q1.keep0 k2
  have yf := yf _ _ (h1.keep0 k2)
  clear yc K1 k2 q1 x0 x1 f0 f1 h1
  obtain ⟨x0, x1, f0, f1⟩ := q2.cells
  go_wp2_with fail
  refine yf.mono ?_
  rintro e w3 ⟨rfl, h3, k3⟩
  have K3 : Keep0 w w3 := K2.step k3 (fun i hi hh => by have := HG.out; have := HB.out; omega)
  have q3 := q2.keep k3 (by have := HB.out; omega)
  have yk := yk _ _ h3
  have z3 : b < w3.heap.size := h3.lt
  clear yf K2 k3 q2 x0 x1 f0 f1 h3
  obtain ⟨x0, x1, f0, f1⟩ := q3.cells
  go_wp2_with fail
  refine yk.mono ?_
  rintro e w4 ⟨rfl, r4, h4, k4, hr4⟩
  have K4 : Keep0 w w4 := K3.step k4 (fun i hi hh => by have := HG.out; have := HB.out; unfold two at hh; omega)
  have q4 := q3.keep k4 (by have := HB.out; unfold two; omega)
  have hr4 : b ≤ r4 := by omega
  have yt := yt _ _ h4
  have z4 : b < w4.heap.size := h4.lt
  clear yk K3 k4 q3 x0 x1 f0 f1 h4 z3
  obtain ⟨x0, x1, f0, f1⟩ := q4.cells
  go_wp2_with fail
  refine yt.mono ?_
  rintro e w5 ⟨rfl, r5, h5, k5, hr5⟩
  have K5 : Keep0 w w5 := K4.step k5 (fun i hi hh => by have := HG.out; have := HB.out; unfold two at hh; omega)
  have q5 := q4.keep k5 (by have := HB.out; unfold two; omega)
  have hr5 : b ≤ r5 := by omega
  clear yt K4 k5 q4 x0 x1 f0 f1 hr4 z4
  obtain ⟨x0, x1, f0, f1⟩ := q5.cells
  go_wp2_with fail
  clear x0 x1 f0 f1 q5
  go_loopw [25] (fun i wr => ∃ (k : Nat) (r' : Nat), i = .int .i64 (k : Int) ∧ k ≤ L.length ∧ Hid (Pen wr b r' (pOss 65536 P2 ((L.map Po.x).take k)).1 65536 (pOss 65536 P2 ((L.map Po.x).take k)).2) ∧ Hid (b ≤ r') ∧ Keep0 w wr) (fun i _ => L.length - (intOf i).toNat)
  case atStart => exact ⟨0, r5, rfl, Nat.zero_le _, h5, hr5, K5⟩
  case round =>
    obtain ⟨k, r', rfl, hk, HP, Hr, hK⟩ := hrel
    clear h5 hr5 K5
    by_cases hlt : k < L.length
    · have j2 : (k : Int) < L.length := by omega
      obtain ⟨bb, off, rfl, s1, s2⟩ := (HC.out.keep0 hK).at_ k hlt
      obtain ⟨a0, a1, a2⟩ := s1
      have kB : Keep0 wr (wr.alloc (.cells #[.slice L[k].vo L[k].x.c.length L[k].vc, .bool L[k].x.d, .string L[k].x.v] 47)) := (Keep.refl _ wr).alloc _
      obtain ⟨c0, c1, c2⟩ := poAt_new wr 47 L[k]
      have KB := hK.trans kB
      have hS := pOss_take (M := 65536) (p := P2) (l := L.map Po.x) (k := k) (by rw [HM.out]; exact hlt)
      rw [List.getElem_map] at hS
      have yp := putSib17 (HP.out.keep0 kB) (HS.out k) L[k] (HF.out _ (List.getElem_mem hlt)) (s2.keep0 kB) (fun hl g' off' m' e hh => by
        have := ens_old (HC.out.ins _ (List.getElem_mem hlt)) hl g' off' m' e
        have := HG.out
        have := HB.out
        have := Hr.out
        unfold two at hh
        omega)
      have hE : ((pOss 65536 P2 ((L.map Po.x).take k)).1, (pOss 65536 P2 ((L.map Po.x).take k)).2) = pOss 65536 P2 ((L.map Po.x).take k) := rfl
      rw [hE, ← hS] at yp
      have zr := hK.size
      obtain ⟨P3, hP3⟩ : ∃ z, pOss 65536 P2 ((L.map Po.x).take (k + 1)) = z := ⟨_, rfl⟩
      rw [hP3] at yp
      have HP3 : Hid (pOss 65536 P2 ((L.map Po.x).take (k + 1)) = P3) := hP3
      have hzb : b < (wr.alloc (.cells #[.slice L[k].vo L[k].x.c.length L[k].vc, .bool L[k].x.d, .string L[k].x.v] 47)).heap.size := (HP.out.keep0 kB).lt
      clear hE hS s2 kB hP3 HP hK
      generalize L[k] = Y at *
      go_wp2_with fail
      clear a0 a1 a2
      generalize (wr.alloc (.cells #[.slice Y.vo Y.x.c.length Y.vc, .bool Y.x.d, .string Y.x.v] 47)) = WN at *
      generalize wr.heap.size = h at *
      refine yp.mono ?_
      rintro e w6 ⟨rfl, r6, h6, k6, hr6⟩
      have K6 : Keep0 w w6 := KB.step k6 (fun i hi hh => by have := HG.out; have := HB.out; have := Hr.out; unfold two at hh; omega)
      have HR6 : Hid (b ≤ r6) := by show _ ≤ _; have := Hr.out; omega
      have HP6 : Hid (Pen w6 b r6 (pOss 65536 P2 ((L.map Po.x).take (k + 1))).1 65536 (pOss 65536 P2 ((L.map Po.x).take (k + 1))).2) := by rw [HP3.out]; exact h6
      clear yp k6 KB h6 hr6 HP3 c0 c1 c2
      go_wp2
      go_roundw
      case rel => exact ⟨k + 1, r6, by go_num, by omega, HP6, HR6, K6⟩
      case measure => simp [intOf]; omega
    · have j2 : ¬ (k : Int) < L.length := by omega
      have ek : (L.map Po.x).take k = L.map Po.x := List.take_of_length_le (by rw [HM.out]; omega)
      have hp := HP.out
      rw [ek] at hp
      have ye := pend_any hp
      have he := HE.out _ rfl
      obtain ⟨RE, hRE⟩ : ∃ z, pOss 65536 P2 (L.map Po.x) = z := ⟨_, rfl⟩
      rw [hRE] at ye he
      have HV : Hid ((pEnd RE.1 RE.2, RE.2) = EL) := he
      clear ek hp HP he hRE
      generalize pEnd RE.1 RE.2 = PE at *
      obtain ⟨RT, RX⟩ := RE
      have HV : Hid ((PE, RX) = EL) := HV
      go_wp2_with fail
      refine ye.mono ?_
      rintro e w7 ⟨rfl, rfl⟩
      clear ye
      go_wp2
      go_ret2
      exact ⟨by rw [← HV.out]; rfl, hK⟩
end Go.Proofs.Ytmllchembkpdkaa
