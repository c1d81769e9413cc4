/-
  What this seat's claims lean on of the texts Turns17.
  Conditions: as each theorem states.
-/
import Derived.WalkKit
import Derived.ProofKit
import Derived.Below
import Derived.Deep.Draws
import Derived.Deep.RegionHeld
import Derived.Test.YtmllchembkpdkaaChecked
import Derived.OpenShut
import Derived.ShutString
import Derived.WalkSpells
import Derived.WalkLawsBesides
import Derived.Deep.QuietTactic
import Derived.BigQuiet
import Derived.Laws.Bits64b
import Derived.PlainAid
import Derived.Lib.AppendStr
import Derived.Deep.AppendLies
import Derived.Laws.IdiomStrings
import Derived.Laws.BytesArg
import Derived.Deep.RegionWith
import Derived.Laws.AppendOwn
import Derived.Deep.DeepAppendWide
import Derived.Deep.Upon
import Derived.Maps.AppendAt
import Derived.Deep.Slices
import Derived.Laws.Rows
import Derived.Test.YtmllchembkpdkaaZ43
import Derived.Test.YtmllchembkpdkaaZ1
import Derived.Test.YtmllchembkpdkaaZ42
namespace Go.Proofs.Ytmllchembkpdkaa
open Go.RowKit
theorem hmem17 {l : List Po} {k : Nat} {p : Po} (h : p ∈ l.drop k ++ l.take k) : p ∈ l := by
  rcases List.mem_append.1 h with h | h
  · exact List.mem_of_mem_drop h
  · exact List.mem_of_mem_take h
theorem Unlike.perm {l m : List Os} (h : Unlike l) (p : l.Perm m) : Unlike m := (p.pairwise_iff (fun h e => h e.symm)).1 h
theorem turn_perm {α : Type} (l : List α) (k : Nat) : (l.drop k ++ l.take k).Perm l := by
  have h := List.perm_append_comm (l₁ := l.drop k) (l₂ := l.take k)
  rw [List.take_append_drop] at h
  exact h
theorem turn_check {key : ByteArray} {l m : List Os} (h : olCheck ⟨key, l⟩ = 0) (p : m.Perm l) : olCheck ⟨key, m⟩ = 0 := by
  obtain ⟨h1, h2, h3⟩ := olCheck_zero.1 h
  have h1 : outS key l.length = 0 := h1
  exact olCheck_zero.2 ⟨by show outS key m.length = 0; rw [p.length_eq]; exact h1, fun x hx => h2 x (p.mem_iff.1 hx), h3.perm p.symm⟩
theorem eOss_turn (l : List Os) (k : Nat) : (eOss (l.drop k ++ l.take k)).size = (eOss l).size := by
  have e1 : eOss (l.drop k ++ l.take k) = eOss (l.drop k) ++ eOss (l.take k) := eMany_app _ _
  have e2 : eOss (l.take k ++ l.drop k) = eOss (l.take k) ++ eOss (l.drop k) := eMany_app _ _
  rw [List.take_append_drop] at e2
  rw [e1, e2, ByteArray.size_append, ByteArray.size_append]
  omega
theorem bEncT_size17 (s : ByteArray) (h : s.size < 18446744073709551616) : (bEncT s).size ≤ s.size + 10 := by
  unfold bEncT
  rw [ByteArray.size_append]
  have := (vText_le (n := s.size) h).2
  omega
theorem eOss_size17 : ∀ {l : List Os}, (∀ x ∈ l, okOs x ∧ x.v.size ≤ 200) → (eOss l).size ≤ 2964 * l.length
  | [], _ => Nat.zero_le _
  | x :: l, h => by
    have h1 := eOss_size17 (fun y hy => h y (List.mem_cons_of_mem _ hy))
    obtain ⟨h2, h3⟩ := h x List.mem_cons_self
    have h4 := eVec_size h2.1
    have h5 := bEncT_size17 x.v (by omega)
    have e : (eOss (x :: l)).size = ((eVec x.c).size + (1 + (bEncT x.v).size)) + (eOss l).size := by
      show ((eVec x.c ++ (eFlag x.d ++ bEncT x.v)) ++ eOss l).size = _
      rw [ByteArray.size_append, ByteArray.size_append, ByteArray.size_append, eFlag_size]
    rw [e, List.length_cons]
    omega
theorem eOl_size17 {o : Ol} (h : okOl o) (hk : o.key.size ≤ 200) (hv : ∀ x ∈ o.l, x.v.size ≤ 200) : (eOl o).size ≤ 65536 := by
  obtain ⟨h1, h2, _⟩ := olCheck_zero.1 h.1
  obtain ⟨_, h3, _, h4⟩ := outS_zero.1 h1
  have h5 := eOss_size17 (l := o.l) (fun x hx => ⟨okOs_U.2 ⟨h2 x hx, h.2 x hx⟩, hv x hx⟩)
  have h6 := bEncT_size17 o.key (by omega)
  have h7 := (vText_le (n := o.l.length) (by omega)).2
  unfold eOl
  rw [ByteArray.size_append, ByteArray.size_append]
  omega
theorem encL_fine {o : Ol} (h : okOl o) (hs : (eOl o).size ≤ 65536) : encL o = (eOl o, 0) := by
  unfold encL
  rw [if_pos h.1, if_pos (by omega)]
theorem turn_size {key : ByteArray} (l : List Os) (k : Nat) : (eOl ⟨key, l.drop k ++ l.take k⟩).size = (eOl ⟨key, l⟩).size := by
  unfold eOl
  show (bEncT key ++ (vText (l.drop k ++ l.take k).length ++ eOss (l.drop k ++ l.take k))).size = (bEncT key ++ (vText l.length ++ eOss l)).size
  rw [ByteArray.size_append, ByteArray.size_append, ByteArray.size_append, ByteArray.size_append, eOss_turn, (turn_perm l k).length_eq]
theorem turn_same {key : ByteArray} {l : List Os} {k : Nat} (hu : Unlike l) (hk : k < l.length) : (⟨key, l⟩ : Ol) = ⟨key, l.drop k ++ l.take k⟩ ↔ k = 0 := by
  constructor
  · intro h
    refine Decidable.byContradiction fun h0 => ?_
    have h1 : l = l.drop k ++ l.take k := congrArg Ol.l h
    have h2 : l[0]? = l[k]? := by
      have e := congrArg (fun z : List Os => z[0]?) h1
      have e : l[0]? = (l.drop k ++ l.take k)[0]? := e
      rw [e, List.getElem?_append_left (by rw [List.length_drop]; omega), List.getElem?_drop]
      rfl
    rw [List.getElem?_eq_getElem (by omega), List.getElem?_eq_getElem hk] at h2
    have h3 := (List.pairwise_iff_getElem.1 hu) 0 k (by omega) hk (by omega)
    exact h3 (by rw [Option.some.inj h2])
  · intro h
    subst h
    rw [List.drop_zero, List.take_zero, List.append_nil]
theorem turn_text {key : ByteArray} {l : List Os} {k : Nat} (h1 : okOl ⟨key, l⟩) (h2 : okOl ⟨key, l.drop k ++ l.take k⟩) (hk : k < l.length) : eOl ⟨key, l⟩ = eOl ⟨key, l.drop k ++ l.take k⟩ ↔ k = 0 := by
  rw [← turn_same (key := key) (olCheck_zero.1 h1.1).2.2 hk]
  constructor
  · intro e
    have a := ol_codec.dec_enc (z := zOl) h1
    have b := ol_codec.dec_enc (z := zOl) h2
    rw [e, b] at a
    exact (congrArg Prod.fst a).symm
  · intro e
    rw [← e]
set_option maxRecDepth 100000 in
set_option maxHeartbeats 8000000 in
theorem legacyTurns_po (V : OlCode) (w : World) (key : ByteArray) (hk : key.size ≤ maxLen) (ao : Option Addr) (cap : Nat) (LP : List Po) (hl : LP.length ≤ maxLen) (hcp : LP.length ≤ cap ∧ cap ≤ maxLen) (hf : ∀ p ∈ LP, FitsOs p.x) (hc : PosAt w ao LP) (tn : Nat) (htn : tn < 256) :
    Calls Try.prog 5 #[.agg #[.string key, .slice ao LP.length cap], .int .u8 (tn : Int)] w fun e w' => e = .returned (.bool true) ∧ Keep0 w w' := by
  have yw := fun W => awake17 V W
  have yg := fun W (h : PosAt W ao LP) => rgreat17 W key hk ao cap LP hl hf h
  have yc := fun W (h : PosAt W ao LP) => rcheck17 W key hk ao cap LP hl hf h
  have i0 : (LP.length : Int) ≤ 9223372036854775807 := by unfold maxLen at hl; omega
  have HC : Hid (PosAt w ao LP) := hc
  have HCp : Hid (LP.length ≤ cap ∧ cap ≤ maxLen) := hcp
  have kB : Keep0 w (w.alloc (.cells #[.string key, .slice ao LP.length cap] 24)) := (Keep.refl _ w).alloc _
  have hX : DAt (w.alloc (.cells #[.string key, .slice ao LP.length cap] 24)) w.heap.size (.string key) (.slice ao LP.length cap) := DAt.new w 24 (.string key) (.slice ao LP.length cap)
  have hA := hc.keep0 kB
  have elm : (LP.map Po.x).length = LP.length := List.length_map ..
  cases hg : olGreat ⟨key, LP.map Po.x⟩ with
  | true =>
    simp only [hg] at yg
    clear hg
    go_enter Try.func5, Try.ntmps5
    go_wp2_with fail
    generalize (w.alloc (.cells #[.string key, .slice ao LP.length cap] 24)) = W0 at *
    generalize w.heap.size = g at *
    refine (yw W0).mono ?_
    rintro e w1 ⟨rfl, k1⟩
    have K1 := kB.trans k1
    obtain ⟨a0, a1, af0, af1⟩ := (hX.keep0 k1).cells
    have hA1 := hA.keep0 k1
    clear kB k1 hX yw hA
    go_wp2_with fail
    refine (yg w1 hA1).mono ?_
    rintro e w2 ⟨rfl, k2⟩
    have K2 := K1.trans k2
    clear K1 k2 yg hA1 a0 a1 af0 af1 yc
    go_wp2
    go_ret
    exact ⟨rfl, K2⟩
  | false =>
  simp only [hg] at yg
  by_cases hck : olCheck ⟨key, LP.map Po.x⟩ = 0
  case neg =>
    have e0 : (olCheck ⟨key, LP.map Po.x⟩ != 0) = true := by simpa using hck
    clear hck hg
    generalize olCheck ⟨key, LP.map Po.x⟩ = C at *
    go_enter Try.func5, Try.ntmps5
    go_wp2_with fail
    generalize (w.alloc (.cells #[.string key, .slice ao LP.length cap] 24)) = W0 at *
    generalize w.heap.size = g at *
    refine (yw W0).mono ?_
    rintro e w1 ⟨rfl, k1⟩
    have K1 := kB.trans k1
    obtain ⟨a0, a1, af0, af1⟩ := (hX.keep0 k1).cells
    have hA1 := hA.keep0 k1
    clear kB k1 hX yw hA
    go_wp2_with fail
    refine (yg w1 hA1).mono ?_
    rintro e w2 ⟨rfl, k2⟩
    have K2 := K1.trans k2
    replace a0 := k2.cell a0 (fun f => f)
    replace a1 := k2.cell a1 (fun f => f)
    have hA2 := hA1.keep0 k2
    clear K1 k2 yg hA1
    go_wp2_with fail
    refine (yc w2 hA2).mono ?_
    rintro e w3 ⟨rfl, k3⟩
    have K3 := K2.trans k3
    clear K2 k3 yc hA2 a0 a1 af0 af1
    go_wp2
    go_ret
    exact ⟨rfl, K3⟩
  simp only [hck] at yc
  obtain ⟨okp, hl20⟩ := great_ok17 hf hg
  obtain ⟨gk, _, gv⟩ := olGreat_no hg
  have hoko : okOl ⟨key, LP.map Po.x⟩ := ⟨hck, okp.u⟩
  obtain ⟨ck1, _, ck3⟩ := olCheck_zero.1 hck
  have hn0 : 0 < LP.length := by
    have h : outS key (LP.map Po.x).length = 0 := ck1
    rw [elm] at h
    exact (outS_zero.1 h).2.2.1
  have hkk : tn % LP.length < LP.length := Nat.mod_lt _ hn0
  have hmod : Int.tmod (tn : Int) (LP.length : Int) = ((tn % LP.length : Nat) : Int) := rfl
  obtain ⟨kk, hk2⟩ : ∃ kk, tn % LP.length = kk := ⟨_, rfl⟩
  rw [hk2] at hkk hmod
  have m0 : ¬ (LP.length : Int) = 0 := by omega
  have m1 : IntKind.i64.wrap (kk : Int) = (kk : Int) := by rw [IntKind.wrap_i64]; omega
  have m2 : IntKind.i64.wrap (tn : Int) = (tn : Int) := by rw [IntKind.wrap_i64]; omega
  have m3 : ¬ LP.length = 0 := by omega
  obtain ⟨ab, af, eao, _, _⟩ := hc.at_ 0 hn0
  subst eao
  have HY : Hid (∀ L2 : List Po, L2 = LP.drop kk ++ LP.take kk →
      (∀ W ao cap, PosAt W ao LP → LP.length ≤ cap → cap ≤ maxLen → Calls Try.prog 9 #[.agg #[.string key, .slice ao LP.length cap]] W fun e w' => e = .returned (.tuple #[.string (eOl ⟨key, LP.map Po.x⟩), .int .i64 0]) ∧ Keep0 W w') ∧
      (∀ W ao cap, PosAt W ao L2 → L2.length ≤ cap → cap ≤ maxLen → Calls Try.prog 9 #[.agg #[.string key, .slice ao L2.length cap]] W fun e w' => e = .returned (.tuple #[.string (eOl ⟨key, (LP.map Po.x).drop kk ++ (LP.map Po.x).take kk⟩), .int .i64 0]) ∧ Keep0 W w') ∧
      (∀ W ao cap bo cb, PosAt W ao LP → LP.length ≤ cap → cap ≤ maxLen → PosAt W bo L2 → L2.length ≤ cb → cb ≤ maxLen → Calls Try.prog 15 #[.agg #[.string key, .slice ao LP.length cap], .agg #[.string key, .slice bo L2.length cb]] W fun e w' => e = .returned (.bool true) ∧ Keep0 W w') ∧
      (∀ W ao cap bo cb, PosAt W ao LP → LP.length ≤ cap → cap ≤ maxLen → PosAt W bo L2 → L2.length ≤ cb → cb ≤ maxLen → Calls Try.prog 13 #[.agg #[.string key, .slice ao LP.length cap], .agg #[.string key, .slice bo L2.length cb]] W fun e w' => e = .returned (.bool (decide (kk = 0))) ∧ Keep0 W w')) := by
    intro L2 hL2
    have hm : L2.map Po.x = (LP.map Po.x).drop kk ++ (LP.map Po.x).take kk := by rw [hL2, List.map_append, List.map_drop, List.map_take]
    have hp : (L2.map Po.x).Perm (LP.map Po.x) := by rw [hm]; exact turn_perm _ _
    have hck2 := turn_check hck hp
    have ok2 : Ok17 key L2 := by
      refine ⟨okp.key, ?_, fun p hp => okp.sib p (by rw [hL2] at hp; exact hmem17 hp), fun p hp => okp.val p (by rw [hL2] at hp; exact hmem17 hp)⟩
      have := hp.length_eq
      rw [List.length_map, List.length_map] at this
      rw [this]
      exact okp.len
    have hok2 : okOl ⟨key, L2.map Po.x⟩ := ⟨hck2, ok2.u⟩
    have hs1 : (eOl ⟨key, LP.map Po.x⟩).size ≤ 65536 := eOl_size17 hoko gk (fun x hx => (gv x hx).2)
    have hs2 : (eOl ⟨key, L2.map Po.x⟩).size ≤ 65536 := by rw [hm, turn_size]; exact hs1
    have e1 := encL_fine hoko hs1
    have e2 := encL_fine hok2 hs2
    have kl : kk < (LP.map Po.x).length := by rw [elm]; exact hkk
    refine ⟨fun W ao cap h h1 h2 => ?_, fun W ao cap h h1 h2 => ?_, fun W ao cap bo cb h h1 h2 h' h1' h2' => ?_, fun W ao cap bo cb h h1 h2 h' h1' h2' => ?_⟩
    · have := V.encode W key ao cap LP okp h1 h2 h
      rw [e1] at this
      exact this
    · have := V.encode W key ao cap L2 ok2 h1 h2 h
      rw [e2, hm] at this
      exact this
    · have := V.alike W key ao cap LP key bo cb L2 okp h1 h2 h ok2 h1' h2' h'
      rw [olAlike_yes (o := ⟨key, LP.map Po.x⟩) (q := ⟨key, L2.map Po.x⟩) hck hck2 rfl hp.length_eq.symm (fun x hx => hp.mem_iff.2 hx)] at this
      exact this
    · have := V.same W key ao cap LP key bo cb L2 okp h1 h2 h ok2 h1' h2' h'
      have e : olSame ⟨key, LP.map Po.x⟩ ⟨key, L2.map Po.x⟩ = decide (kk = 0) := by
        rw [hm]
        have q := turn_same (key := key) ck3 kl
        by_cases h0 : kk = 0
        · rw [decide_eq_true h0]; exact olSame_iff.2 (q.2 h0)
        · rw [decide_eq_false h0]
          cases hb : olSame ⟨key, LP.map Po.x⟩ ⟨key, (LP.map Po.x).drop kk ++ (LP.map Po.x).take kk⟩ with
          | false => rfl
          | true => exact absurd (q.1 (olSame_iff.1 hb)) h0
      rw [e] at this
      exact this
  have hTT' : ((eOl ⟨key, LP.map Po.x⟩).toList == (eOl ⟨key, (LP.map Po.x).drop kk ++ (LP.map Po.x).take kk⟩).toList) = decide (kk = 0) := by
    have hok2 : okOl ⟨key, (LP.map Po.x).drop kk ++ (LP.map Po.x).take kk⟩ := ⟨turn_check hck (turn_perm _ _), fun x hx => hoko.2 x ((turn_perm _ _).mem_iff.1 hx)⟩
    have q := turn_text hoko hok2 (by rw [elm]; exact hkk)
    by_cases h0 : kk = 0
    · rw [decide_eq_true h0, q.2 h0]; exact beq_self_eq_true _
    · rw [decide_eq_false h0]; exact (txt_ne (fun e => h0 (q.1 e))).1
  have hSz := turn_size (key := key) (LP.map Po.x) kk
  have hSs : (eOl ⟨key, LP.map Po.x⟩).size ≤ 65536 := eOl_size17 hoko gk (fun x hx => (gv x hx).2)
  generalize eOl ⟨key, (LP.map Po.x).drop kk ++ (LP.map Po.x).take kk⟩ = TX at *
  generalize eOl ⟨key, LP.map Po.x⟩ = SX at *
  have j0 : (SX.size : Int) ≤ 9223372036854775807 := by omega
  have j1 : (SX.size : Int) = TX.size := by omega
  have jk : ((kk : Int) == 0) = decide (kk = 0) := by
    by_cases h0 : kk = 0
    · subst h0; rfl
    · rw [decide_eq_false h0]; exact beq_eq_false_iff_ne.2 (by omega)
  have Hkk : Hid (kk < LP.length) := hkk
  have Hl20 : Hid (LP.length ≤ 20) := hl20
  have m4 : (0 : Int) ≤ (kk : Int) := by omega
  have m5 : (kk : Int) ≤ (LP.length : Int) := by omega
  have m6 : (kk : Int) ≤ (cap : Int) := by have := hcp.1; omega
  have m7 : kk ≤ LP.length := by omega
  have m8 : kk ≤ cap := by have := hcp.1; omega
  have hnA : Hid (LP.length - kk = (LP.drop kk).length) := by show _ = _; rw [List.length_drop]
  have hnB : Hid (kk = (LP.take kk).length) := by show _ = _; rw [List.length_take]; omega
  have hne : ¬ cap = kk := by have := hcp.1; omega
  clear hSz hSs hg hck hk2 okp gk gv hoko ck1 ck3 hcp hl hf elm hk
  generalize decide (kk = 0) = DK at *
  go_enter Try.func5, Try.ntmps5
  go_wp2_with fail
  generalize (w.alloc (.cells #[.string key, .slice (some ⟨ab, af, none⟩) LP.length cap] 24)) = W0 at *
  obtain ⟨g, hg⟩ : ∃ z, w.heap.size = z := ⟨_, rfl⟩
  rw [hg] at hX ⊢
  clear hg
  refine (yw W0).mono ?_
  rintro e w1 ⟨rfl, k1⟩
  have K1 := kB.trans k1
  have hX1 := hX.keep0 k1
  obtain ⟨a0, a1, af0, af1⟩ := hX1.cells
  have hA1 := hA.keep0 k1
  clear kB k1 hX yw hA
  go_wp2_with fail
  refine (yg w1 hA1).mono ?_
  rintro e w2 ⟨rfl, k2⟩
  have K2 := K1.trans k2
  have hX2 := hX1.keep0 k2
  have hA2 := hA1.keep0 k2
  clear K1 k2 yg hA1 hX1 a0 a1 af0 af1
  obtain ⟨a0, a1, af0, af1⟩ := hX2.cells
  go_wp2_with fail
  refine (yc w2 hA2).mono ?_
  rintro e wr ⟨rfl, k3⟩
  have HKw : Hid (Keep0 w wr) := K2.trans k3
  have HXr : Hid (DAt wr g (.string key) (.slice (some ⟨ab, af, none⟩) LP.length cap)) := hX2.keep0 k3
  have hrw := (hA2.keep0 k3).row
  have HRA : Hid (RowAt Po.cells 3 wr (some ⟨ab, af + kk * 3, none⟩) (LP.drop kk)) := hrw.drop kk
  have HRB : Hid (RowAt Po.cells 3 wr (some ⟨ab, af, none⟩) (LP.take kk)) := hrw.take kk
  obtain ⟨A2, hA2e⟩ : ∃ A, (some ⟨ab, af + kk * 3, none⟩ : Option Addr) = A := ⟨_, rfl⟩
  rw [hA2e] at HRA
  have hA2f : (if cap = kk then some (⟨ab, af, none⟩ : Addr) else some ⟨ab, af + kk * 3, none⟩) = A2 := by rw [if_neg hne]; exact hA2e
  clear K2 k3 yc hA2 hX2 hrw a0 a1 af0 af1 hA2e hne
  obtain ⟨a0, a1, af0, af1⟩ := HXr.out.cells
  clear af0 af1
  go_wp2_with fail
  clear hmod m0 m2 m3
  have Kc : Keep0 wr wr.drew := (Keep.refl _ wr).drew
  have z0 : wr.drew.cell? ⟨g, 0, none⟩ = some (.string key) := Kc.cell a0 (fun f => f)
  have z1 : wr.drew.cell? ⟨g, 1, none⟩ = some (.slice (some ⟨ab, af, none⟩) LP.length cap) := Kc.cell a1 (fun f => f)
  refine wp_region_held_drew (S := (fun W => W.cell? ⟨g, 0, none⟩ = some (.string key) ∧ W.cell? ⟨g, 1, none⟩ = some (.slice (some ⟨ab, af, none⟩) LP.length cap))) (by kernel_rfl) ⟨z0, z1⟩ (fun hHeld => ?_)
  clear z0 z1
  generalize wr.drew = wD at *
  refine wpAnyH_take (i := 0) (v := ?q0v) (by simp only [List.getElem?_toArray, List.getElem?_cons_zero] <;> rfl) (by kernel_rfl) (by kernel_rfl) (by kernel_rfl) (by exact fun _ _ _ h => h) (Or.inl ⟨by rfl, ?q0y⟩) hHeld ?q0r
  case q0y => intro w hSw; (try dsimp only at hSw); go_simp <;> rfl
  simp only [Act.put, List.setIfInBounds_toArray, List.set_cons_zero, List.set_cons_succ]
  refine wpAnyH_take (i := 1) (v := ?q1v) (by simp only [List.getElem?_toArray, List.getElem?_cons_succ, List.getElem?_cons_zero] <;> rfl) (by kernel_rfl) (by kernel_rfl) (by kernel_rfl) (by exact fun _ _ _ h => h) (Or.inl ⟨by rfl, ?q1y⟩) hHeld ?q1r
  case q1y => intro w hSw; (try dsimp only at hSw); go_simp <;> rfl
  simp only [Act.put, List.setIfInBounds_toArray, List.set_cons_zero, List.set_cons_succ]
  refine wpAnyH_take (i := 3) (v := ?q2v) (by simp only [List.getElem?_toArray, List.getElem?_cons_succ, List.getElem?_cons_zero] <;> rfl) (by kernel_rfl) (by kernel_rfl) (by kernel_rfl) (by exact fun _ _ _ h => h) (Or.inl ⟨by rfl, ?q2y⟩) hHeld ?q2r
  case q2y => intro w hSw; (try dsimp only at hSw); go_simp <;> rfl
  simp only [Act.put, List.setIfInBounds_toArray, List.set_cons_zero, List.set_cons_succ]
  refine wpAnyH_take (i := 4) (v := ?q3v) (by simp only [List.getElem?_toArray, List.getElem?_cons_succ, List.getElem?_cons_zero] <;> rfl) (by kernel_rfl) (by kernel_rfl) (by kernel_rfl) (by exact fun _ _ _ h => h) (Or.inl ⟨by rfl, ?q3y⟩) hHeld ?q3r
  case q3y => intro w hSw; (try dsimp only at hSw); go_simp <;> rfl
  simp only [Act.put, List.setIfInBounds_toArray, List.set_cons_zero, List.set_cons_succ]
  refine wpAnyH_take (i := 5) (v := ?q4v) (by simp only [List.getElem?_toArray, List.getElem?_cons_succ, List.getElem?_cons_zero] <;> rfl) (by kernel_rfl) (by kernel_rfl) (by kernel_rfl) (by exact fun _ _ _ h => h) (Or.inl ⟨by rfl, ?q4y⟩) hHeld ?q4r
  case q4y => intro w hSw; (try dsimp only at hSw); go_simp <;> rfl
  simp only [Act.put, List.setIfInBounds_toArray, List.set_cons_zero, List.set_cons_succ]
  refine wpAnyH_take (i := 6) (v := ?q5v) (by simp only [List.getElem?_toArray, List.getElem?_cons_succ, List.getElem?_cons_zero] <;> rfl) (by kernel_rfl) (by kernel_rfl) (by kernel_rfl) (by exact fun _ _ _ h => h) (Or.inl ⟨by rfl, ?q5y⟩) hHeld ?q5r
  case q5y => intro w hSw; (try dsimp only at hSw); go_simp <;> rfl
  simp only [Act.put, List.setIfInBounds_toArray, List.set_cons_zero, List.set_cons_succ]
  refine wpAnyH_take (i := 8) (v := ?q6v) (by simp only [List.getElem?_toArray, List.getElem?_cons_succ, List.getElem?_cons_zero] <;> rfl) (by kernel_rfl) (by kernel_rfl) (by kernel_rfl) (by exact fun _ _ _ h => h) (Or.inl ⟨by rfl, ?q6y⟩) hHeld ?q6r
  case q6y => intro w hSw; (try dsimp only at hSw); go_simp <;> rfl
  simp only [Act.put, List.setIfInBounds_toArray, List.set_cons_zero, List.set_cons_succ]
  refine wpAnyH_take (i := 9) (v := ?q7v) (by simp only [List.getElem?_toArray, List.getElem?_cons_succ, List.getElem?_cons_zero] <;> rfl) (by kernel_rfl) (by kernel_rfl) (by kernel_rfl) (by exact fun _ _ _ h => h) (Or.inl ⟨by rfl, ?q7y⟩) hHeld ?q7r
  case q7y => intro w hSw; (try dsimp only at hSw); go_simp <;> rfl
  simp only [Act.put, List.setIfInBounds_toArray, List.set_cons_zero, List.set_cons_succ]
  refine wpAnyH_take (i := 10) (v := ?q8v) (by simp only [List.getElem?_toArray, List.getElem?_cons_succ, List.getElem?_cons_zero] <;> rfl) (by kernel_rfl) (by kernel_rfl) (by kernel_rfl) (by exact fun _ _ _ h => h) (Or.inl ⟨by rfl, ?q8y⟩) hHeld ?q8r
  case q8y => intro w hSw; (try dsimp only at hSw); go_simp <;> rfl
  simp only [Act.put, List.setIfInBounds_toArray, List.set_cons_zero, List.set_cons_succ]
  refine wpAnyH_take (i := 11) (v := ?q9v) (by simp only [List.getElem?_toArray, List.getElem?_cons_succ, List.getElem?_cons_zero] <;> rfl) (by kernel_rfl) (by kernel_rfl) (by kernel_rfl) (by exact fun _ _ _ h => h) (Or.inl ⟨by rfl, ?q9y⟩) hHeld ?q9r
  case q9y => intro w hSw; (try dsimp only at hSw); go_simp <;> rfl
  simp only [Act.put, List.setIfInBounds_toArray, List.set_cons_zero, List.set_cons_succ]
  refine wpAnyH_ready (rs := [2, 14]) (by kernel_rfl) (by simp) ?_
  refine AllReadyH.cons (by simp only [List.getElem?_toArray, List.getElem?_cons_succ, List.getElem?_cons_zero] <;> rfl) (fun K hK => ?_) (AllReadyH.cons (by simp only [List.getElem?_toArray, List.getElem?_cons_succ, List.getElem?_cons_zero] <;> rfl) (fun K hK => ?_) AllReadyH.nil)
  · go_simp
    have kE : Keep0 wD (wD.alloc (.cells #[] 47)) := (Keep.refl _ _).alloc _
    have hrow : (wD.alloc (.cells #[] 47)).ownsRow wD.heap.size 47 3 (.slice (some ⟨wD.heap.size, 0, none⟩) 0 0) ([] : List Po).length (rowOf Po.cells []) := row_made wD 47
    have hgE : wr.heap.size ≤ wD.heap.size := Kc.size
    have K1 := Kc.trans kE
    refine hK.out _ _ ⟨K1.cell a0 (fun f => f), K1.cell a1 (fun f => f)⟩ (fun hHeld => ?_)
    clear hK K
    try simp only [Act.put, List.setIfInBounds_toArray, List.set_cons_zero, List.set_cons_succ]
    clear kE Kc
    generalize (wD.alloc (.cells #[] 47)) = W1 at *
    generalize wD.heap.size = gE at *
    refine wpAnyH_ready (rs := [7, 14]) (by kernel_rfl) (by simp) ?_
    refine AllReadyH.cons (by simp only [List.getElem?_toArray, List.getElem?_cons_succ, List.getElem?_cons_zero] <;> rfl) (fun K hK => ?_) (AllReadyH.cons (by simp only [List.getElem?_toArray, List.getElem?_cons_succ, List.getElem?_cons_zero] <;> rfl) (fun K hK => ?_) AllReadyH.nil)
    · have hsrc : RowAt Po.cells 3 W1 A2 (LP.drop kk) := HRA.out.keep0 K1
      have hB : gE ≤ W1.heap.size := Nat.le_of_lt (hrow.lt gE rfl).2
      have hlen : ([] : List Po).length + (LP.drop kk).length ≤ 1000000 := by rw [List.length_drop]; show 0 + _ ≤ _; have := Hl20.out; omega
      refine step_append_row (l := []) poT rfl _ _ rfl rfl rfl hnA.out hrow hsrc hB hlen ?_
      intro v6 w6 g1 g4x g5
      have K6 : Keep0 wr w6 := K1.step (keep_grown g4x) (fun i hi e => by have := (hrow.lt _ e).1; omega)
      refine hK.out _ _ ⟨K6.cell a0 (fun f => f), K6.cell a1 (fun f => f)⟩ (fun hHeld => ?_)
      clear hK K
      try simp only [Act.put, List.setIfInBounds_toArray, List.set_cons_zero, List.set_cons_succ]
      have g1 : w6.ownsRow gE 47 3 v6 (LP.drop kk).length (rowOf Po.cells (LP.drop kk)) := g1
      have hB6 : gE ≤ w6.heap.size := Nat.le_trans hB g4x.size
      clear g4x g5 hrow hsrc hB hlen K1
      refine wpAnyH_ready (rs := [12, 14]) (by kernel_rfl) (by simp) ?_
      refine AllReadyH.cons (by simp only [List.getElem?_toArray, List.getElem?_cons_succ, List.getElem?_cons_zero] <;> rfl) (fun K hK => ?_) (AllReadyH.cons (by simp only [List.getElem?_toArray, List.getElem?_cons_succ, List.getElem?_cons_zero] <;> rfl) (fun K hK => ?_) AllReadyH.nil)
      · have hsrc2 : RowAt Po.cells 3 w6 (some ⟨ab, af, none⟩) (LP.take kk) := HRB.out.keep0 K6
        have hB7 : gE ≤ w6.heap.size := hB6
        have hlen6 : (LP.drop kk).length + (LP.take kk).length ≤ 1000000 := by rw [List.length_drop, List.length_take]; have := Hl20.out; omega
        refine step_append_row poT rfl _ _ rfl rfl rfl hnB.out g1 hsrc2 hB7 hlen6 ?_
        intro v8 w8 g6 g7 g8
        have K8 : Keep0 wr w8 := K6.step (keep_grown g7) (fun i hi e => by have := (g1.lt _ e).1; omega)
        refine hK.out _ _ ⟨K8.cell a0 (fun f => f), K8.cell a1 (fun f => f)⟩ (fun hHeld => ?_)
        clear hK K
        try simp only [Act.put, List.setIfInBounds_toArray, List.set_cons_zero, List.set_cons_succ]
        obtain ⟨L2, hL2⟩ : ∃ z, LP.drop kk ++ LP.take kk = z := ⟨_, rfl⟩
        rw [hL2] at g6
        obtain ⟨lb, lcb, rfl, r1, r2, r3, r4⟩ := row_of_own poT.len poT.pos g6
        have hPl2 : PosAt w8 lb L2 := ⟨r1, fun p hp => (HC.out.ins p (by rw [← hL2] at hp; exact hmem17 hp)).keep0 (HKw.out.trans K8)⟩
        clear g1 g6 g7 g8 r1 r2 hsrc2 hB6 hB7 hlen6 K6
        refine wpAnyH_take (i := 13) (v := ?q4_0v) (by simp only [List.getElem?_toArray, List.getElem?_cons_succ, List.getElem?_cons_zero] <;> rfl) (by kernel_rfl) (by kernel_rfl) (by kernel_rfl) (by exact fun _ _ _ h => h) (Or.inl ⟨by rfl, ?q4_0y⟩) hHeld ?q4_0r
        case q4_0y => intro w hSw; (try dsimp only at hSw); go_simp <;> rfl
        simp only [Act.put, List.setIfInBounds_toArray, List.set_cons_zero, List.set_cons_succ]
        refine wpAnyH_ready (rs := [14]) (by kernel_rfl) (by simp) ?_
        refine AllReadyH.cons (by simp only [List.getElem?_toArray, List.getElem?_cons_succ, List.getElem?_cons_zero] <;> rfl) (fun K hK => ?_) AllReadyH.nil
        go_simp
        have kz : Keep0 w8 (w8.alloc (.cells #[.string ⟨#[]⟩, .slice none 0 0] 24)) := (Keep.refl _ _).alloc _
        have hZ := DAt.new w8 24 (.string ⟨#[]⟩) (.slice none 0 0)
        have hgz : wr.heap.size ≤ w8.heap.size := K8.size
        replace hPl2 := hPl2.keep0 kz
        replace K8 := K8.trans kz
        refine hK.out _ _ ⟨K8.cell a0 (fun f => f), K8.cell a1 (fun f => f)⟩ (fun hHeld => ?_)
        clear hK K
        try simp only [Act.put, List.setIfInBounds_toArray, List.set_cons_zero, List.set_cons_succ]
        clear kz
        generalize (w8.alloc (.cells #[.string ⟨#[]⟩, .slice none 0 0] 24)) = WZ at *
        generalize w8.heap.size = g21 at *
        obtain ⟨t0, t1, tf0, tf1⟩ := hZ.cells
        refine wpAnyH_ready (rs := [15]) (by kernel_rfl) (by simp) ?_
        refine AllReadyH.cons (by simp only [List.getElem?_toArray, List.getElem?_cons_succ, List.getElem?_cons_zero] <;> rfl) (fun K hK => ?_) AllReadyH.nil
        go_simp
        have kp : Keep1 g21 WZ ((WZ.setCell ⟨g21, 0, none⟩ (.string key)).setCell ⟨g21, 1, none⟩ (.slice lb L2.length lcb)) := put2_keep _ _ _ _
        have us2 : PosAt ((WZ.setCell ⟨g21, 0, none⟩ (.string key)).setCell ⟨g21, 1, none⟩ (.slice lb L2.length lcb)) lb L2 := pos_beside hZ kp hPl2
        have hZ2 := hZ.put (.string key) (.slice lb L2.length lcb)
        have KU : Keep0 wr ((WZ.setCell ⟨g21, 0, none⟩ (.string key)).setCell ⟨g21, 1, none⟩ (.slice lb L2.length lcb)) := K8.step kp (fun i hi hh => by omega)
        refine hK.out _ _ ⟨KU.cell a0 (fun f => f), KU.cell a1 (fun f => f)⟩ (fun hHeld => ?_)
        clear hK K
        try simp only [Act.put, List.setIfInBounds_toArray, List.set_cons_zero, List.set_cons_succ]
        refine wpAnyH_done (by kernel_rfl) ?_ _
        clear hHeld t0 t1 tf0 tf1
        clear kp hPl2 hZ K8
        have hx : DAt ((WZ.setCell ⟨g21, 0, none⟩ (.string key)).setCell ⟨g21, 1, none⟩ (.slice lb L2.length lcb)) g (.string key) (.slice (some ⟨ab, af, none⟩) LP.length cap) := HXr.out.keep0 KU
        have KW := HKw.out.trans KU
        obtain ⟨c0, c1, cf0, cf1⟩ := hx.cells
        obtain ⟨b0, b1, bf0, bf1⟩ := hZ2.cells
        have xs := HC.out.keep0 KW
        clear a0 a1
        have yk2 := HY.out L2 hL2.symm
        go_wp2_with fail
        generalize ((WZ.setCell ⟨g21, 0, none⟩ (.string key)).setCell ⟨g21, 1, none⟩ (.slice lb L2.length lcb)) = WU at *
        refine (yk2.1 WU (some ⟨ab, af, none⟩) cap xs HCp.out.1 HCp.out.2).mono ?_
        rintro e WV ⟨rfl, kv⟩
        replace c0 := kv.cell c0 (fun f => f)
        replace c1 := kv.cell c1 (fun f => f)
        replace b0 := kv.cell b0 (fun f => f)
        replace b1 := kv.cell b1 (fun f => f)
        have xs := xs.keep0 kv
        have us2 := us2.keep0 kv
        have KV := KW.trans kv
        clear KW kv KU hx hZ2 bf0 bf1 cf0 cf1
        go_wp2_with fail
        refine (yk2.2.1 WV lb lcb us2 r3 r4).mono ?_
        rintro e WX ⟨rfl, kv⟩
        replace c0 := kv.cell c0 (fun f => f)
        replace c1 := kv.cell c1 (fun f => f)
        replace b0 := kv.cell b0 (fun f => f)
        replace b1 := kv.cell b1 (fun f => f)
        have xs := xs.keep0 kv
        have us2 := us2.keep0 kv
        have KX := KV.trans kv
        clear KV kv
        go_wp2_with fail
        refine (yk2.2.2.1 WX (some ⟨ab, af, none⟩) cap lb lcb xs HCp.out.1 HCp.out.2 us2 r3 r4).mono ?_
        rintro e WY ⟨rfl, kv⟩
        replace c0 := kv.cell c0 (fun f => f)
        replace c1 := kv.cell c1 (fun f => f)
        replace b0 := kv.cell b0 (fun f => f)
        replace b1 := kv.cell b1 (fun f => f)
        have xs := xs.keep0 kv
        have us2 := us2.keep0 kv
        have KY := KX.trans kv
        clear KX kv
        go_wp2_with fail
        refine (yk2.2.2.2 WY (some ⟨ab, af, none⟩) cap lb lcb xs HCp.out.1 HCp.out.2 us2 r3 r4).mono ?_
        rintro e WT ⟨rfl, kv⟩
        have KT := KY.trans kv
        clear KY kv xs us2
        go_wp2
        go_ret
        exact ⟨by simp, KT⟩
      · go_simp
        have kz : Keep0 w6 (w6.alloc (.cells #[.string ⟨#[]⟩, .slice none 0 0] 24)) := (Keep.refl _ _).alloc _
        have hZ := DAt.new w6 24 (.string ⟨#[]⟩) (.slice none 0 0)
        have hgz : wr.heap.size ≤ w6.heap.size := K6.size
        have hno2 : ∀ g, Value.ownBlock v6 = some g → g ≠ w6.heap.size := fun g e => by have := (g1.lt g e).2; omega
        replace g1 := rowE_keep g1 kz (fun _ _ f => f)
        replace hB6 := Nat.le_trans hB6 kz.size
        replace K6 := K6.trans kz
        refine hK.out _ _ ⟨K6.cell a0 (fun f => f), K6.cell a1 (fun f => f)⟩ (fun hHeld => ?_)
        clear hK K
        try simp only [Act.put, List.setIfInBounds_toArray, List.set_cons_zero, List.set_cons_succ]
        clear kz
        generalize (w6.alloc (.cells #[.string ⟨#[]⟩, .slice none 0 0] 24)) = WZ at *
        generalize w6.heap.size = g21 at *
        refine wpAnyH_ready (rs := [12]) (by kernel_rfl) (by simp) ?_
        refine AllReadyH.cons (by simp only [List.getElem?_toArray, List.getElem?_cons_succ, List.getElem?_cons_zero] <;> rfl) (fun K hK => ?_) AllReadyH.nil
        have hsrc2 : RowAt Po.cells 3 WZ (some ⟨ab, af, none⟩) (LP.take kk) := HRB.out.keep0 K6
        have hB7 : gE ≤ WZ.heap.size := hB6
        have hlen6 : (LP.drop kk).length + (LP.take kk).length ≤ 1000000 := by rw [List.length_drop, List.length_take]; have := Hl20.out; omega
        refine step_append_row poT rfl _ _ rfl rfl rfl hnB.out g1 hsrc2 hB7 hlen6 ?_
        intro v8 w8 g6 g7 g8
        have K8 : Keep0 wr w8 := K6.step (keep_grown g7) (fun i hi e => by have := (g1.lt _ e).1; omega)
        refine hK.out _ _ ⟨K8.cell a0 (fun f => f), K8.cell a1 (fun f => f)⟩ (fun hHeld => ?_)
        clear hK K
        try simp only [Act.put, List.setIfInBounds_toArray, List.set_cons_zero, List.set_cons_succ]
        replace hZ := hZ.keep (keep_grown g7) (fun e => hno2 _ e rfl)
        clear hno2
        obtain ⟨L2, hL2⟩ : ∃ z, LP.drop kk ++ LP.take kk = z := ⟨_, rfl⟩
        rw [hL2] at g6
        obtain ⟨lb, lcb, rfl, r1, r2, r3, r4⟩ := row_of_own poT.len poT.pos g6
        have hPl2 : PosAt w8 lb L2 := ⟨r1, fun p hp => (HC.out.ins p (by rw [← hL2] at hp; exact hmem17 hp)).keep0 (HKw.out.trans K8)⟩
        clear g1 g6 g7 g8 r1 r2 hsrc2 hB6 hB7 hlen6 K6
        refine wpAnyH_take (i := 13) (v := ?q6_0v) (by simp only [List.getElem?_toArray, List.getElem?_cons_succ, List.getElem?_cons_zero] <;> rfl) (by kernel_rfl) (by kernel_rfl) (by kernel_rfl) (by exact fun _ _ _ h => h) (Or.inl ⟨by rfl, ?q6_0y⟩) hHeld ?q6_0r
        case q6_0y => intro w hSw; (try dsimp only at hSw); go_simp <;> rfl
        simp only [Act.put, List.setIfInBounds_toArray, List.set_cons_zero, List.set_cons_succ]
        obtain ⟨t0, t1, tf0, tf1⟩ := hZ.cells
        refine wpAnyH_ready (rs := [15]) (by kernel_rfl) (by simp) ?_
        refine AllReadyH.cons (by simp only [List.getElem?_toArray, List.getElem?_cons_succ, List.getElem?_cons_zero] <;> rfl) (fun K hK => ?_) AllReadyH.nil
        go_simp
        have kp : Keep1 g21 w8 ((w8.setCell ⟨g21, 0, none⟩ (.string key)).setCell ⟨g21, 1, none⟩ (.slice lb L2.length lcb)) := put2_keep _ _ _ _
        have us2 : PosAt ((w8.setCell ⟨g21, 0, none⟩ (.string key)).setCell ⟨g21, 1, none⟩ (.slice lb L2.length lcb)) lb L2 := pos_beside hZ kp hPl2
        have hZ2 := hZ.put (.string key) (.slice lb L2.length lcb)
        have KU : Keep0 wr ((w8.setCell ⟨g21, 0, none⟩ (.string key)).setCell ⟨g21, 1, none⟩ (.slice lb L2.length lcb)) := K8.step kp (fun i hi hh => by omega)
        refine hK.out _ _ ⟨KU.cell a0 (fun f => f), KU.cell a1 (fun f => f)⟩ (fun hHeld => ?_)
        clear hK K
        try simp only [Act.put, List.setIfInBounds_toArray, List.set_cons_zero, List.set_cons_succ]
        refine wpAnyH_done (by kernel_rfl) ?_ _
        clear hHeld t0 t1 tf0 tf1
        clear kp hPl2 hZ K8
        have hx : DAt ((w8.setCell ⟨g21, 0, none⟩ (.string key)).setCell ⟨g21, 1, none⟩ (.slice lb L2.length lcb)) g (.string key) (.slice (some ⟨ab, af, none⟩) LP.length cap) := HXr.out.keep0 KU
        have KW := HKw.out.trans KU
        obtain ⟨c0, c1, cf0, cf1⟩ := hx.cells
        obtain ⟨b0, b1, bf0, bf1⟩ := hZ2.cells
        have xs := HC.out.keep0 KW
        clear a0 a1
        have yk2 := HY.out L2 hL2.symm
        go_wp2_with fail
        generalize ((w8.setCell ⟨g21, 0, none⟩ (.string key)).setCell ⟨g21, 1, none⟩ (.slice lb L2.length lcb)) = WU at *
        refine (yk2.1 WU (some ⟨ab, af, none⟩) cap xs HCp.out.1 HCp.out.2).mono ?_
        rintro e WV ⟨rfl, kv⟩
        replace c0 := kv.cell c0 (fun f => f)
        replace c1 := kv.cell c1 (fun f => f)
        replace b0 := kv.cell b0 (fun f => f)
        replace b1 := kv.cell b1 (fun f => f)
        have xs := xs.keep0 kv
        have us2 := us2.keep0 kv
        have KV := KW.trans kv
        clear KW kv KU hx hZ2 bf0 bf1 cf0 cf1
        go_wp2_with fail
        refine (yk2.2.1 WV lb lcb us2 r3 r4).mono ?_
        rintro e WX ⟨rfl, kv⟩
        replace c0 := kv.cell c0 (fun f => f)
        replace c1 := kv.cell c1 (fun f => f)
        replace b0 := kv.cell b0 (fun f => f)
        replace b1 := kv.cell b1 (fun f => f)
        have xs := xs.keep0 kv
        have us2 := us2.keep0 kv
        have KX := KV.trans kv
        clear KV kv
        go_wp2_with fail
        refine (yk2.2.2.1 WX (some ⟨ab, af, none⟩) cap lb lcb xs HCp.out.1 HCp.out.2 us2 r3 r4).mono ?_
        rintro e WY ⟨rfl, kv⟩
        replace c0 := kv.cell c0 (fun f => f)
        replace c1 := kv.cell c1 (fun f => f)
        replace b0 := kv.cell b0 (fun f => f)
        replace b1 := kv.cell b1 (fun f => f)
        have xs := xs.keep0 kv
        have us2 := us2.keep0 kv
        have KY := KX.trans kv
        clear KX kv
        go_wp2_with fail
        refine (yk2.2.2.2 WY (some ⟨ab, af, none⟩) cap lb lcb xs HCp.out.1 HCp.out.2 us2 r3 r4).mono ?_
        rintro e WT ⟨rfl, kv⟩
        have KT := KY.trans kv
        clear KY kv xs us2
        go_wp2
        go_ret
        exact ⟨by simp, KT⟩
    · go_simp
      have kz : Keep0 W1 (W1.alloc (.cells #[.string ⟨#[]⟩, .slice none 0 0] 24)) := (Keep.refl _ _).alloc _
      have hZ := DAt.new W1 24 (.string ⟨#[]⟩) (.slice none 0 0)
      have hgz : wr.heap.size ≤ W1.heap.size := K1.size
      have hno1 : W1.heap.size ≠ gE := by have := (hrow.lt gE rfl).2; omega
      replace hrow := rowE_keep hrow kz (fun _ _ f => f)
      replace K1 := K1.trans kz
      refine hK.out _ _ ⟨K1.cell a0 (fun f => f), K1.cell a1 (fun f => f)⟩ (fun hHeld => ?_)
      clear hK K
      try simp only [Act.put, List.setIfInBounds_toArray, List.set_cons_zero, List.set_cons_succ]
      clear kz
      generalize (W1.alloc (.cells #[.string ⟨#[]⟩, .slice none 0 0] 24)) = WZ at *
      generalize W1.heap.size = g21 at *
      refine wpAnyH_ready (rs := [7]) (by kernel_rfl) (by simp) ?_
      refine AllReadyH.cons (by simp only [List.getElem?_toArray, List.getElem?_cons_succ, List.getElem?_cons_zero] <;> rfl) (fun K hK => ?_) AllReadyH.nil
      have hsrc : RowAt Po.cells 3 WZ A2 (LP.drop kk) := HRA.out.keep0 K1
      have hB : gE ≤ WZ.heap.size := Nat.le_of_lt (hrow.lt gE rfl).2
      have hlen : ([] : List Po).length + (LP.drop kk).length ≤ 1000000 := by rw [List.length_drop]; show 0 + _ ≤ _; have := Hl20.out; omega
      refine step_append_row (l := []) poT rfl _ _ rfl rfl rfl hnA.out hrow hsrc hB hlen ?_
      intro v6 w6 g1 g4x g5
      have K6 : Keep0 wr w6 := K1.step (keep_grown g4x) (fun i hi e => by have := (hrow.lt _ e).1; omega)
      refine hK.out _ _ ⟨K6.cell a0 (fun f => f), K6.cell a1 (fun f => f)⟩ (fun hHeld => ?_)
      clear hK K
      try simp only [Act.put, List.setIfInBounds_toArray, List.set_cons_zero, List.set_cons_succ]
      have g1 : w6.ownsRow gE 47 3 v6 (LP.drop kk).length (rowOf Po.cells (LP.drop kk)) := g1
      have hB6 : gE ≤ w6.heap.size := Nat.le_trans hB g4x.size
      have hno2 : ∀ g, Value.ownBlock v6 = some g → g ≠ g21 := fun g e => by
        rcases g5 with h | h
        · rw [h] at e; cases e; exact fun e2 => hno1 e2.symm
        · rw [h] at e; cases e; have := hZ.lt; omega
      replace hZ := hZ.keep (keep_grown g4x) (fun e => by cases e; exact hno1 rfl)
      clear hno1
      clear g4x g5 hrow hsrc hB hlen K1
      refine wpAnyH_ready (rs := [12]) (by kernel_rfl) (by simp) ?_
      refine AllReadyH.cons (by simp only [List.getElem?_toArray, List.getElem?_cons_succ, List.getElem?_cons_zero] <;> rfl) (fun K hK => ?_) AllReadyH.nil
      have hsrc2 : RowAt Po.cells 3 w6 (some ⟨ab, af, none⟩) (LP.take kk) := HRB.out.keep0 K6
      have hB7 : gE ≤ w6.heap.size := hB6
      have hlen6 : (LP.drop kk).length + (LP.take kk).length ≤ 1000000 := by rw [List.length_drop, List.length_take]; have := Hl20.out; omega
      refine step_append_row poT rfl _ _ rfl rfl rfl hnB.out g1 hsrc2 hB7 hlen6 ?_
      intro v8 w8 g6 g7 g8
      have K8 : Keep0 wr w8 := K6.step (keep_grown g7) (fun i hi e => by have := (g1.lt _ e).1; omega)
      refine hK.out _ _ ⟨K8.cell a0 (fun f => f), K8.cell a1 (fun f => f)⟩ (fun hHeld => ?_)
      clear hK K
      try simp only [Act.put, List.setIfInBounds_toArray, List.set_cons_zero, List.set_cons_succ]
      replace hZ := hZ.keep (keep_grown g7) (fun e => hno2 _ e rfl)
      clear hno2
      obtain ⟨L2, hL2⟩ : ∃ z, LP.drop kk ++ LP.take kk = z := ⟨_, rfl⟩
      rw [hL2] at g6
      obtain ⟨lb, lcb, rfl, r1, r2, r3, r4⟩ := row_of_own poT.len poT.pos g6
      have hPl2 : PosAt w8 lb L2 := ⟨r1, fun p hp => (HC.out.ins p (by rw [← hL2] at hp; exact hmem17 hp)).keep0 (HKw.out.trans K8)⟩
      clear g1 g6 g7 g8 r1 r2 hsrc2 hB6 hB7 hlen6 K6
      refine wpAnyH_take (i := 13) (v := ?q9_0v) (by simp only [List.getElem?_toArray, List.getElem?_cons_succ, List.getElem?_cons_zero] <;> rfl) (by kernel_rfl) (by kernel_rfl) (by kernel_rfl) (by exact fun _ _ _ h => h) (Or.inl ⟨by rfl, ?q9_0y⟩) hHeld ?q9_0r
      case q9_0y => intro w hSw; (try dsimp only at hSw); go_simp <;> rfl
      simp only [Act.put, List.setIfInBounds_toArray, List.set_cons_zero, List.set_cons_succ]
      obtain ⟨t0, t1, tf0, tf1⟩ := hZ.cells
      refine wpAnyH_ready (rs := [15]) (by kernel_rfl) (by simp) ?_
      refine AllReadyH.cons (by simp only [List.getElem?_toArray, List.getElem?_cons_succ, List.getElem?_cons_zero] <;> rfl) (fun K hK => ?_) AllReadyH.nil
      go_simp
      have kp : Keep1 g21 w8 ((w8.setCell ⟨g21, 0, none⟩ (.string key)).setCell ⟨g21, 1, none⟩ (.slice lb L2.length lcb)) := put2_keep _ _ _ _
      have us2 : PosAt ((w8.setCell ⟨g21, 0, none⟩ (.string key)).setCell ⟨g21, 1, none⟩ (.slice lb L2.length lcb)) lb L2 := pos_beside hZ kp hPl2
      have hZ2 := hZ.put (.string key) (.slice lb L2.length lcb)
      have KU : Keep0 wr ((w8.setCell ⟨g21, 0, none⟩ (.string key)).setCell ⟨g21, 1, none⟩ (.slice lb L2.length lcb)) := K8.step kp (fun i hi hh => by omega)
      refine hK.out _ _ ⟨KU.cell a0 (fun f => f), KU.cell a1 (fun f => f)⟩ (fun hHeld => ?_)
      clear hK K
      try simp only [Act.put, List.setIfInBounds_toArray, List.set_cons_zero, List.set_cons_succ]
      refine wpAnyH_done (by kernel_rfl) ?_ _
      clear hHeld t0 t1 tf0 tf1
      clear kp hPl2 hZ K8
      have hx : DAt ((w8.setCell ⟨g21, 0, none⟩ (.string key)).setCell ⟨g21, 1, none⟩ (.slice lb L2.length lcb)) g (.string key) (.slice (some ⟨ab, af, none⟩) LP.length cap) := HXr.out.keep0 KU
      have KW := HKw.out.trans KU
      obtain ⟨c0, c1, cf0, cf1⟩ := hx.cells
      obtain ⟨b0, b1, bf0, bf1⟩ := hZ2.cells
      have xs := HC.out.keep0 KW
      clear a0 a1
      have yk2 := HY.out L2 hL2.symm
      go_wp2_with fail
      generalize ((w8.setCell ⟨g21, 0, none⟩ (.string key)).setCell ⟨g21, 1, none⟩ (.slice lb L2.length lcb)) = WU at *
      refine (yk2.1 WU (some ⟨ab, af, none⟩) cap xs HCp.out.1 HCp.out.2).mono ?_
      rintro e WV ⟨rfl, kv⟩
      replace c0 := kv.cell c0 (fun f => f)
      replace c1 := kv.cell c1 (fun f => f)
      replace b0 := kv.cell b0 (fun f => f)
      replace b1 := kv.cell b1 (fun f => f)
      have xs := xs.keep0 kv
      have us2 := us2.keep0 kv
      have KV := KW.trans kv
      clear KW kv KU hx hZ2 bf0 bf1 cf0 cf1
      go_wp2_with fail
      refine (yk2.2.1 WV lb lcb us2 r3 r4).mono ?_
      rintro e WX ⟨rfl, kv⟩
      replace c0 := kv.cell c0 (fun f => f)
      replace c1 := kv.cell c1 (fun f => f)
      replace b0 := kv.cell b0 (fun f => f)
      replace b1 := kv.cell b1 (fun f => f)
      have xs := xs.keep0 kv
      have us2 := us2.keep0 kv
      have KX := KV.trans kv
      clear KV kv
      go_wp2_with fail
      refine (yk2.2.2.1 WX (some ⟨ab, af, none⟩) cap lb lcb xs HCp.out.1 HCp.out.2 us2 r3 r4).mono ?_
      rintro e WY ⟨rfl, kv⟩
      replace c0 := kv.cell c0 (fun f => f)
      replace c1 := kv.cell c1 (fun f => f)
      replace b0 := kv.cell b0 (fun f => f)
      replace b1 := kv.cell b1 (fun f => f)
      have xs := xs.keep0 kv
      have us2 := us2.keep0 kv
      have KY := KX.trans kv
      clear KX kv
      go_wp2_with fail
      refine (yk2.2.2.2 WY (some ⟨ab, af, none⟩) cap lb lcb xs HCp.out.1 HCp.out.2 us2 r3 r4).mono ?_
      rintro e WT ⟨rfl, kv⟩
      have KT := KY.trans kv
      clear KY kv xs us2
      go_wp2
      go_ret
      exact ⟨by simp, KT⟩
  · go_simp
    have kz : Keep0 wD (wD.alloc (.cells #[.string ⟨#[]⟩, .slice none 0 0] 24)) := (Keep.refl _ _).alloc _
    have hZ := DAt.new wD 24 (.string ⟨#[]⟩) (.slice none 0 0)
    have hgz : wr.heap.size ≤ wD.heap.size := Kc.size
    replace Kc := Kc.trans kz
    refine hK.out _ _ ⟨Kc.cell a0 (fun f => f), Kc.cell a1 (fun f => f)⟩ (fun hHeld => ?_)
    clear hK K
    try simp only [Act.put, List.setIfInBounds_toArray, List.set_cons_zero, List.set_cons_succ]
    clear kz
    generalize (wD.alloc (.cells #[.string ⟨#[]⟩, .slice none 0 0] 24)) = WZ at *
    generalize wD.heap.size = g21 at *
    refine wpAnyH_ready (rs := [2]) (by kernel_rfl) (by simp) ?_
    refine AllReadyH.cons (by simp only [List.getElem?_toArray, List.getElem?_cons_succ, List.getElem?_cons_zero] <;> rfl) (fun K hK => ?_) AllReadyH.nil
    go_simp
    have kE : Keep0 WZ (WZ.alloc (.cells #[] 47)) := (Keep.refl _ _).alloc _
    have hrow : (WZ.alloc (.cells #[] 47)).ownsRow WZ.heap.size 47 3 (.slice (some ⟨WZ.heap.size, 0, none⟩) 0 0) ([] : List Po).length (rowOf Po.cells []) := row_made WZ 47
    have hgE : wr.heap.size ≤ WZ.heap.size := Kc.size
    have hno1 : g21 ≠ WZ.heap.size := by have := hZ.lt; omega
    replace hZ := hZ.keep0 kE
    have K1 := Kc.trans kE
    refine hK.out _ _ ⟨K1.cell a0 (fun f => f), K1.cell a1 (fun f => f)⟩ (fun hHeld => ?_)
    clear hK K
    try simp only [Act.put, List.setIfInBounds_toArray, List.set_cons_zero, List.set_cons_succ]
    clear kE Kc
    generalize (WZ.alloc (.cells #[] 47)) = W1 at *
    generalize WZ.heap.size = gE at *
    refine wpAnyH_ready (rs := [7]) (by kernel_rfl) (by simp) ?_
    refine AllReadyH.cons (by simp only [List.getElem?_toArray, List.getElem?_cons_succ, List.getElem?_cons_zero] <;> rfl) (fun K hK => ?_) AllReadyH.nil
    have hsrc : RowAt Po.cells 3 W1 A2 (LP.drop kk) := HRA.out.keep0 K1
    have hB : gE ≤ W1.heap.size := Nat.le_of_lt (hrow.lt gE rfl).2
    have hlen : ([] : List Po).length + (LP.drop kk).length ≤ 1000000 := by rw [List.length_drop]; show 0 + _ ≤ _; have := Hl20.out; omega
    refine step_append_row (l := []) poT rfl _ _ rfl rfl rfl hnA.out hrow hsrc hB hlen ?_
    intro v6 w6 g1 g4x g5
    have K6 : Keep0 wr w6 := K1.step (keep_grown g4x) (fun i hi e => by have := (hrow.lt _ e).1; omega)
    refine hK.out _ _ ⟨K6.cell a0 (fun f => f), K6.cell a1 (fun f => f)⟩ (fun hHeld => ?_)
    clear hK K
    try simp only [Act.put, List.setIfInBounds_toArray, List.set_cons_zero, List.set_cons_succ]
    have g1 : w6.ownsRow gE 47 3 v6 (LP.drop kk).length (rowOf Po.cells (LP.drop kk)) := g1
    have hB6 : gE ≤ w6.heap.size := Nat.le_trans hB g4x.size
    have hno2 : ∀ g, Value.ownBlock v6 = some g → g ≠ g21 := fun g e => by
      rcases g5 with h | h
      · rw [h] at e; cases e; exact fun e2 => hno1 e2.symm
      · rw [h] at e; cases e; have := hZ.lt; omega
    replace hZ := hZ.keep (keep_grown g4x) (fun e => by cases e; exact hno1 rfl)
    clear hno1
    clear g4x g5 hrow hsrc hB hlen K1
    refine wpAnyH_ready (rs := [12]) (by kernel_rfl) (by simp) ?_
    refine AllReadyH.cons (by simp only [List.getElem?_toArray, List.getElem?_cons_succ, List.getElem?_cons_zero] <;> rfl) (fun K hK => ?_) AllReadyH.nil
    have hsrc2 : RowAt Po.cells 3 w6 (some ⟨ab, af, none⟩) (LP.take kk) := HRB.out.keep0 K6
    have hB7 : gE ≤ w6.heap.size := hB6
    have hlen6 : (LP.drop kk).length + (LP.take kk).length ≤ 1000000 := by rw [List.length_drop, List.length_take]; have := Hl20.out; omega
    refine step_append_row poT rfl _ _ rfl rfl rfl hnB.out g1 hsrc2 hB7 hlen6 ?_
    intro v8 w8 g6 g7 g8
    have K8 : Keep0 wr w8 := K6.step (keep_grown g7) (fun i hi e => by have := (g1.lt _ e).1; omega)
    refine hK.out _ _ ⟨K8.cell a0 (fun f => f), K8.cell a1 (fun f => f)⟩ (fun hHeld => ?_)
    clear hK K
    try simp only [Act.put, List.setIfInBounds_toArray, List.set_cons_zero, List.set_cons_succ]
    replace hZ := hZ.keep (keep_grown g7) (fun e => hno2 _ e rfl)
    clear hno2
    obtain ⟨L2, hL2⟩ : ∃ z, LP.drop kk ++ LP.take kk = z := ⟨_, rfl⟩
    rw [hL2] at g6
    obtain ⟨lb, lcb, rfl, r1, r2, r3, r4⟩ := row_of_own poT.len poT.pos g6
    have hPl2 : PosAt w8 lb L2 := ⟨r1, fun p hp => (HC.out.ins p (by rw [← hL2] at hp; exact hmem17 hp)).keep0 (HKw.out.trans K8)⟩
    clear g1 g6 g7 g8 r1 r2 hsrc2 hB6 hB7 hlen6 K6
    refine wpAnyH_take (i := 13) (v := ?q13_0v) (by simp only [List.getElem?_toArray, List.getElem?_cons_succ, List.getElem?_cons_zero] <;> rfl) (by kernel_rfl) (by kernel_rfl) (by kernel_rfl) (by exact fun _ _ _ h => h) (Or.inl ⟨by rfl, ?q13_0y⟩) hHeld ?q13_0r
    case q13_0y => intro w hSw; (try dsimp only at hSw); go_simp <;> rfl
    simp only [Act.put, List.setIfInBounds_toArray, List.set_cons_zero, List.set_cons_succ]
    obtain ⟨t0, t1, tf0, tf1⟩ := hZ.cells
    refine wpAnyH_ready (rs := [15]) (by kernel_rfl) (by simp) ?_
    refine AllReadyH.cons (by simp only [List.getElem?_toArray, List.getElem?_cons_succ, List.getElem?_cons_zero] <;> rfl) (fun K hK => ?_) AllReadyH.nil
    go_simp
    have kp : Keep1 g21 w8 ((w8.setCell ⟨g21, 0, none⟩ (.string key)).setCell ⟨g21, 1, none⟩ (.slice lb L2.length lcb)) := put2_keep _ _ _ _
    have us2 : PosAt ((w8.setCell ⟨g21, 0, none⟩ (.string key)).setCell ⟨g21, 1, none⟩ (.slice lb L2.length lcb)) lb L2 := pos_beside hZ kp hPl2
    have hZ2 := hZ.put (.string key) (.slice lb L2.length lcb)
    have KU : Keep0 wr ((w8.setCell ⟨g21, 0, none⟩ (.string key)).setCell ⟨g21, 1, none⟩ (.slice lb L2.length lcb)) := K8.step kp (fun i hi hh => by omega)
    refine hK.out _ _ ⟨KU.cell a0 (fun f => f), KU.cell a1 (fun f => f)⟩ (fun hHeld => ?_)
    clear hK K
    try simp only [Act.put, List.setIfInBounds_toArray, List.set_cons_zero, List.set_cons_succ]
    refine wpAnyH_done (by kernel_rfl) ?_ _
    clear hHeld t0 t1 tf0 tf1
    clear kp hPl2 hZ K8
    have hx : DAt ((w8.setCell ⟨g21, 0, none⟩ (.string key)).setCell ⟨g21, 1, none⟩ (.slice lb L2.length lcb)) g (.string key) (.slice (some ⟨ab, af, none⟩) LP.length cap) := HXr.out.keep0 KU
    have KW := HKw.out.trans KU
    obtain ⟨c0, c1, cf0, cf1⟩ := hx.cells
    obtain ⟨b0, b1, bf0, bf1⟩ := hZ2.cells
    have xs := HC.out.keep0 KW
    clear a0 a1
    have yk2 := HY.out L2 hL2.symm
    go_wp2_with fail
    generalize ((w8.setCell ⟨g21, 0, none⟩ (.string key)).setCell ⟨g21, 1, none⟩ (.slice lb L2.length lcb)) = WU at *
    refine (yk2.1 WU (some ⟨ab, af, none⟩) cap xs HCp.out.1 HCp.out.2).mono ?_
    rintro e WV ⟨rfl, kv⟩
    replace c0 := kv.cell c0 (fun f => f)
    replace c1 := kv.cell c1 (fun f => f)
    replace b0 := kv.cell b0 (fun f => f)
    replace b1 := kv.cell b1 (fun f => f)
    have xs := xs.keep0 kv
    have us2 := us2.keep0 kv
    have KV := KW.trans kv
    clear KW kv KU hx hZ2 bf0 bf1 cf0 cf1
    go_wp2_with fail
    refine (yk2.2.1 WV lb lcb us2 r3 r4).mono ?_
    rintro e WX ⟨rfl, kv⟩
    replace c0 := kv.cell c0 (fun f => f)
    replace c1 := kv.cell c1 (fun f => f)
    replace b0 := kv.cell b0 (fun f => f)
    replace b1 := kv.cell b1 (fun f => f)
    have xs := xs.keep0 kv
    have us2 := us2.keep0 kv
    have KX := KV.trans kv
    clear KV kv
    go_wp2_with fail
    refine (yk2.2.2.1 WX (some ⟨ab, af, none⟩) cap lb lcb xs HCp.out.1 HCp.out.2 us2 r3 r4).mono ?_
    rintro e WY ⟨rfl, kv⟩
    replace c0 := kv.cell c0 (fun f => f)
    replace c1 := kv.cell c1 (fun f => f)
    replace b0 := kv.cell b0 (fun f => f)
    replace b1 := kv.cell b1 (fun f => f)
    have xs := xs.keep0 kv
    have us2 := us2.keep0 kv
    have KY := KX.trans kv
    clear KX kv
    go_wp2_with fail
    refine (yk2.2.2.2 WY (some ⟨ab, af, none⟩) cap lb lcb xs HCp.out.1 HCp.out.2 us2 r3 r4).mono ?_
    rintro e WT ⟨rfl, kv⟩
    have KT := KY.trans kv
    clear KY kv xs us2
    go_wp2
    go_ret
    exact ⟨by simp, KT⟩
theorem legacyTurns_law (V : OlCode) (w : World) (key : ByteArray) (ao : Option Addr) (cap : Nat) (L : List Po) (hk : key.size ≤ maxLen) (hl : L.length ≤ maxLen) (hcp : L.length ≤ cap ∧ cap ≤ maxLen) (hf : ∀ p ∈ L, FitsOs p.x) (hA : PosAt w ao L) (tn : Int) (htn : (Lit.int .u8 tn).wf = true) :
    Calls Try.prog 5 #[.agg #[.string key, .slice ao L.length cap], .int .u8 tn] w fun e w' => e = .returned (.bool true) ∧ Keep0 w w' := by
  have hb := bounds_u8 htn
  have e : tn = ((tn.toNat : Nat) : Int) := by omega
  rw [e]
  exact legacyTurns_po V w key hk ao cap L hl hcp hf hA tn.toNat (by omega)
end Go.Proofs.Ytmllchembkpdkaa
