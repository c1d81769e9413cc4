/-
  What this seat's claims lean on of the texts RefObj7.
  Conditions: as each theorem states.
-/
import Derived.WalkKit
import Derived.ProofKit
import Derived.Below
import Derived.Deep.Draws
import Derived.Deep.RegionHeld
import Derived.Test.YtoefibkhlhmlfaaGreatChecked
import Derived.OpenShut
import Derived.ShutString
import Derived.WalkSpells
import Derived.WalkLawsBesides
import Derived.Deep.QuietTactic
import Derived.BigQuiet
import Derived.Laws.Bits64b
import Derived.PlainAid
import Derived.Lib.AppendStr
import Derived.Deep.AppendLies
import Derived.Laws.IdiomStrings
import Derived.Laws.BytesArg
import Derived.Deep.RegionWith
import Derived.Laws.AppendOwn
import Derived.Deep.DeepAppendWide
import Derived.Deep.Upon
import Derived.Maps.AppendAt
import Derived.Laws.Rows
import Derived.Deep.Slices
import Derived.Deep.CutRange
import Derived.Deep.RegionLaw
import Derived.Test.YtoefibkhlhmlfaaGreatY37
import Derived.Test.YtoefibkhlhmlfaaGreatY17
namespace Go.Proofs.YtoefibkhlhmlfaaGreat
open Go.RowKit
def RObS (p : Ob × Int) (w : World) (e : Ending) (w' : World) : Prop := ∃ ao cap L, e = .returned (.tuple #[.agg #[.string p.1.key, .slice ao p.1.l.length cap], .int .i64 p.2]) ∧ L.map Pl.x = p.1.l ∧ PlsAt w' ao L ∧ (∀ g off m, ao = some ⟨g, off, m⟩ → w.heap.size ≤ g) ∧ (L.length ≤ cap ∧ cap ≤ maxLen) ∧ Keep0 w w'
theorem RObS.bare {p : Ob × Int} {w w' : World} {e : Ending} {E : Int} (hp : p = (zOb, E)) (h : e = .returned (.tuple #[.agg #[.string ⟨#[]⟩, .slice none 0 0], .int .i64 E])) (h3 : Keep0 w w') : RObS p w e w' := by
  subst hp
  exact ⟨none, 0, [], h, rfl, PlsAt.nil _ _, (fun _ _ _ e => by cases e), ⟨Nat.le_refl _, Nat.zero_le _⟩, h3⟩
theorem RObS.mk {p : Ob × Int} {w w' : World} {e : Ending} {K : ByteArray} {L : List Pl} {ao : Option Addr} {cap : Nat} (hp : p = (⟨K, L.map Pl.x⟩, 0)) (h : e = .returned (.tuple #[.agg #[.string K, .slice ao L.length cap], .int .i64 0])) (h2 : PlsAt w' ao L) (h4 : ∀ g off m, ao = some ⟨g, off, m⟩ → w.heap.size ≤ g) (hcp : L.length ≤ cap ∧ cap ≤ maxLen) (h3 : Keep0 w w') : RObS p w e w' := by
  subst hp
  exact ⟨ao, cap, L, by rw [h]; show _ = Ending.returned (.tuple #[.agg #[.string K, .slice ao (L.map Pl.x).length cap], _]); rw [List.length_map], rfl, h2, h4, hcp, h3⟩
def sliceLen (v : Value) : Nat := match v with
  | .slice _ n _ => n
  | _ => 0
theorem sBad_first {l : List Sb} {k : Nat} (hk : k < l.length) (h : ∀ q (_ : q < l.length), q < k → sCheck l[q] = 0) (h1 : sCheck l[k] ≠ 0) : sBad l = sCheck l[k] := by
  have hd : ∀ j, j ≤ k → sBad l = sBad (l.drop j) := by
    intro j
    induction j with
    | zero => intro _; rw [List.drop_zero]
    | succ j ih =>
      intro hj
      have hjl : j < l.length := by omega
      rw [ih (by omega), sBad_drop hjl, if_pos (h j hjl (by omega))]
  rw [hd k (Nat.le_refl _), sBad_drop hk, if_neg h1]
def Low (L : List Pl) (k i : Nat) : Prop := ∀ q (_ : q < L.length) (_ : k < L.length), q < i → bl (kb L[q].x) (kb L[k].x) = false
theorem Low.start (L : List Pl) : Low L 0 1 := by
  intro q h1 h2 h3
  obtain rfl : q = 0 := by omega
  exact bl_irr _
theorem Low.same {L : List Pl} {k i : Nat} (h : Low L k i) (hi : i < L.length) (hk : k < L.length) (hb : bl (kb L[i].x) (kb L[k].x) = false) : Low L k (i + 1) := by
  intro q h1 h2 h3
  by_cases e : q = i
  · subst e; exact hb
  · exact h q h1 h2 (by omega)
theorem Low.other {L : List Pl} {k i : Nat} (h : Low L k i) (hi : i < L.length) (hk : k < L.length) (hb : bl (kb L[i].x) (kb L[k].x) = true) : Low L i (i + 1) := by
  intro q h1 h2 h3
  by_cases e : q = i
  · subst e; exact bl_irr _
  · cases hq : bl (kb L[q].x) (kb L[i].x) with
    | false => rfl
    | true => have := h q h1 hk (by omega); rw [bl_trans hq hb] at this; cases this
theorem sel_map {l : List Sb} {O L : List Pl} (h : Sel l (O.map Pl.x) (L.map Pl.x)) {k : Nat} (hk : k < L.length) (hm : Low L k L.length) (hl : ∀ (h0 : 0 < O.length), kb O[O.length - 1].x ≠ kb L[k].x) : Sel l ((O ++ [L[k]]).map Pl.x) ((L.take k ++ L.drop (k + 1)).map Pl.x) := by
  have hk' : k < (L.map Pl.x).length := by rw [List.length_map]; exact hk
  have := h.step hk' (by
    intro y hy
    obtain ⟨p, hp, rfl⟩ := List.mem_map.1 hy
    obtain ⟨q, hq, rfl⟩ := List.mem_iff_getElem.1 hp
    rw [List.getElem_map]
    exact hm q hq hk hq) (by
    intro x hx
    rw [List.getElem_map]
    by_cases h0 : 0 < O.length
    · have e : (O.map Pl.x).getLast? = some O[O.length - 1].x := by
        rw [List.getLast?_eq_getElem?, List.length_map, List.getElem?_map, List.getElem?_eq_getElem (by omega)]
        rfl
      rw [e] at hx
      cases hx
      exact hl h0
    · have : O = [] := List.eq_nil_of_length_eq_zero (by omega)
      subst this
      cases hx)
  rw [List.map_append, List.map_append, List.map_take, List.map_drop]
  rw [List.getElem_map] at this
  exact this
set_option maxRecDepth 100000 in
set_option maxHeartbeats 8000000 in
theorem rsort16_pl (w : World) (key : ByteArray) (hk : key.size ≤ maxLen) (ao : Option Addr) (cap : Nat) (LP : List Pl) (hl : LP.length ≤ maxLen) (hf : ∀ p ∈ LP, FitsS p.x) (hc : PlsAt w ao LP) :
    Calls Tryz.prog 32 #[.string key, .slice ao LP.length cap] w (RObS (oSort key (LP.map Pl.x)) w) := by
  have HE : Hid (∀ (W : World) (e : Ending) (E : Int), oSort key (LP.map Pl.x) = (zOb, E) → e = .returned (.tuple #[.agg #[.string ⟨#[]⟩, .slice none 0 0], .int .i64 E]) → Keep0 w W → RObS (oSort key (LP.map Pl.x)) w e W) := fun _ _ _ h1 h2 h3 => RObS.bare h1 h2 h3
  have HM : Hid (∀ (W : World) (e : Ending) (O : List Pl) (vo : Option Addr) (vc : Nat), oSort key (LP.map Pl.x) = (⟨key, O.map Pl.x⟩, 0) → e = .returned (.tuple #[.agg #[.string key, .slice vo O.length vc], .int .i64 0]) → PlsAt W vo O → (∀ g off m, vo = some ⟨g, off, m⟩ → w.heap.size ≤ g) → (O.length ≤ vc ∧ vc ≤ maxLen) → Keep0 w W → RObS (oSort key (LP.map Pl.x)) w e W) := fun _ _ _ _ _ h1 h2 h3 h4 h4' h5 => RObS.mk h1 h2 h3 h4 h4' h5
  have i0 : (LP.length : Int) ≤ 9223372036854775807 := by unfold maxLen at hl; omega
  have kA : Keep0 w (w.alloc (.cells #[.string ⟨#[]⟩, .slice none 0 0] 27)) := (Keep.refl _ w).alloc _
  have q4 : DAt (w.alloc (.cells #[.string ⟨#[]⟩, .slice none 0 0] 27)) w.heap.size (.string ⟨#[]⟩) (.slice none 0 0) := DAt.new w 27 (.string ⟨#[]⟩) (.slice none 0 0)
  have yo := fun W => routside16 W key hk LP.length
  have HC : Hid (PlsAt w ao LP) := hc
  have HF : Hid (∀ p ∈ LP, FitsS p.x) := hf
  have elm : (LP.map Pl.x).length = LP.length := List.length_map ..
  clear hc hf hl hk
  go_enter Tryz.func32, Tryz.ntmps32
  go_wp2_with fail
  generalize (w.alloc (.cells #[.string ⟨#[]⟩, .slice none 0 0] 27)) = W0 at *
  obtain ⟨g4, hg4⟩ : ∃ g4, w.heap.size = g4 := ⟨_, rfl⟩
  rw [hg4] at q4 ⊢
  have HG4 : Hid (w.heap.size = g4) := hg4
  have HQ4 : Hid (DAt W0 g4 (.string ⟨#[]⟩) (.slice none 0 0)) := q4
  have HKA : Hid (Keep0 w W0) := kA
  clear kA hg4
  refine (yo _).mono ?_
  rintro e w1 ⟨rfl, rfl⟩
  clear yo
  by_cases h0 : outS key LP.length = 0
  case neg =>
    have HV : Hid (oSort key (LP.map Pl.x) = (zOb, outS key LP.length)) := by
      have := oSort_out (key := key) (l := LP.map Pl.x) (by rw [elm]; exact h0)
      rw [elm] at this
      exact this
    have e0 : (outS key LP.length != 0) = true := by simpa using h0
    obtain ⟨u0, u1, f0, f1⟩ := q4.cells
    clear q4 h0 HM elm
    generalize outS key LP.length = E at *
    go_wp2
    refine bodyPost_ret (retOb2 rfl _ _ _ rfl (HQ4.out.put (.string ⟨#[]⟩) (.slice none 0 0))) rfl ?_
    exact HE.out _ _ _ HV.out rfl (HKA.out.step (put2_keep _ _ _ _) (fun i hi hh => by have := HG4.out; omega))
  obtain ⟨_, _, hn0, hn16⟩ := outS_zero.1 h0
  have HOut : Hid (outS key (LP.map Pl.x).length = 0) := by show _ = _; rw [elm]; exact h0
  have Helm : Hid ((LP.map Pl.x).length = LP.length) := elm
  rw [h0]
  clear h0 q4 elm
  go_wp2_with fail
  go_loopw [7] (fun i wr => ∃ (k : Nat), i = .int .i64 (k : Int) ∧ k ≤ LP.length ∧ Hid (∀ q (_ : q < LP.length), q < k → sCheck LP[q].x = 0) ∧ Hid (DAt wr g4 (.string ⟨#[]⟩) (.slice none 0 0)) ∧ Hid (Keep0 w wr)) (fun i _ => LP.length - (intOf i).toNat)
  case atStart => exact ⟨0, rfl, Nat.zero_le _, (fun q _ h => absurd h (Nat.not_lt_zero q)), HQ4, HKA⟩
  case round =>
    obtain ⟨k, rfl, hk, HQ, HQ4r, HKr⟩ := hrel
    clear HQ4 HKA
    by_cases hlt : k < LP.length
    · have i1 : (k : Int) < LP.length := by omega
      obtain ⟨bb, off, eao, s1, s2⟩ := (HC.out.keep0 HKr.out).at_ k hlt
      subst eao
      have hfk := HF.out _ (List.getElem_mem hlt)
      obtain ⟨a0, a1, a2, a3, a4, a5, a6⟩ := s1
      have yc := rcheck15 wr LP[k].vo LP[k].vc LP[k].po LP[k].pc LP[k].x hfk s2
      obtain ⟨u0, u1, f0, f1⟩ := HQ4r.out.cells
      clear s2 hfk
      by_cases h1 : sCheck LP[k].x = 0
      case neg =>
        have HV : Hid (oSort key (LP.map Pl.x) = (zOb, sCheck LP[k].x)) := by
          have hkm : k < (LP.map Pl.x).length := by rw [Helm.out]; exact hlt
          have e := sBad_first hkm (fun q h1 h2 => by rw [List.getElem_map]; exact HQ.out q (by rw [Helm.out] at h1; exact h1) h2) (by rw [List.getElem_map]; exact h1)
          rw [List.getElem_map] at e
          show _ = _
          rw [oSort_bad HOut.out (by rw [e]; exact h1), e]
        have e0 : (sCheck LP[k].x != 0) = true := by simpa using h1
        clear h1 HM HQ
        generalize sCheck LP[k].x = E at *
        generalize LP[k] = PI at *
        go_wp2_with fail
        refine yc.mono ?_
        rintro e w1 ⟨rfl, k1⟩
        have q4b := HQ4r.out.keep0 k1
        have K1 := HKr.out.trans k1
        obtain ⟨u0, u1, f0, f1⟩ := q4b.cells
        clear yc k1 HQ4r HKr
        go_wp2
        refine bodyPost_ret (retOb2 rfl _ _ _ rfl (q4b.put (.string ⟨#[]⟩) (.slice none 0 0))) rfl ?_
        exact HE.out _ _ _ HV.out rfl (K1.step (put2_keep _ _ _ _) (fun i hi hh => by have := HG4.out; omega))
      have HQ2 : Hid (∀ q (_ : q < LP.length), q < k + 1 → sCheck LP[q].x = 0) := by
        intro q hq hq2
        by_cases e : q = k
        · subst e; exact h1
        · exact HQ.out q hq (by omega)
      rw [h1] at yc
      clear h1 HQ
      generalize LP[k] = PI at *
      go_wp2_with fail
      refine yc.mono ?_
      rintro e w1 ⟨rfl, k1⟩
      have HQ4b : Hid (DAt w1 g4 (.string ⟨#[]⟩) (.slice none 0 0)) := HQ4r.out.keep0 k1
      have HK1 : Hid (Keep0 w w1) := HKr.out.trans k1
      clear yc k1 HQ4r HKr u0 u1 f0 f1 a0 a1 a2 a3 a4 a5 a6
      go_wp2
      go_roundw
      case rel => exact ⟨k + 1, by go_num, by omega, HQ2, HQ4b, HK1⟩
      case measure => simp [intOf]; omega
    have i1 : ¬ (k : Int) < LP.length := by omega
    have HAll : Hid (∀ q (_ : q < LP.length), sCheck LP[q].x = 0) := fun q h => HQ.out q h (by omega)
    have HBad : Hid (sBad (LP.map Pl.x) = 0) := by
      refine sBad_zero.2 (fun x hx => ?_)
      obtain ⟨p, hp, rfl⟩ := List.mem_map.1 hx
      obtain ⟨q, hq, rfl⟩ := List.mem_iff_getElem.1 hp
      exact HAll.out q hq
    have HPs : Hid (∀ p ∈ LP, sCheck p.x = 0) := by
      intro p hp
      obtain ⟨q, hq, rfl⟩ := List.mem_iff_getElem.1 hp
      exact HAll.out q hq
    clear HQ HAll
    have k5 : Keep0 wr (wr.alloc (.cells #[.string key, .slice none 0 0] 27)) := (Keep.refl _ wr).alloc _
    have k6 : Keep0 (wr.alloc (.cells #[.string key, .slice none 0 0] 27)) ((wr.alloc (.cells #[.string key, .slice none 0 0] 27)).alloc (.cells #[] 61)) := (Keep.refl _ _).alloc _
    have z5 : (wr.alloc (.cells #[.string key, .slice none 0 0] 27)).heap.size = wr.heap.size + 1 := World.size_alloc _ _
    have z6 : ((wr.alloc (.cells #[.string key, .slice none 0 0] 27)).alloc (.cells #[] 61)).heap.size = wr.heap.size + 2 := by rw [World.size_alloc, z5]
    have q9 : DAt ((wr.alloc (.cells #[.string key, .slice none 0 0] 27)).alloc (.cells #[] 61)) wr.heap.size (.string key) (.slice none 0 0) := (DAt.new wr 27 (.string key) (.slice none 0 0)).keep0 k6
    have hrow : ((wr.alloc (.cells #[.string key, .slice none 0 0] 27)).alloc (.cells #[] 61)).ownsRow (wr.heap.size + 1) 61 7 (.slice (some ⟨wr.heap.size + 1, 0, none⟩) 0 0) ([] : List Pl).length (rowOf Pl.cells []) := by
      have := row_made (f := Pl.cells) (k := 7) (wr.alloc (.cells #[.string key, .slice none 0 0] 27)) 61
      rw [z5] at this
      exact this
    have hsrc : RowAt Pl.cells 7 ((wr.alloc (.cells #[.string key, .slice none 0 0] 27)).alloc (.cells #[] 61)) ao LP := (HC.out.row.keep0 (HKr.out.trans (k5.trans k6)))
    have hB : wr.heap.size + 1 ≤ ((wr.alloc (.cells #[.string key, .slice none 0 0] 27)).alloc (.cells #[] 61)).heap.size := by omega
    have hlen : ([] : List Pl).length + LP.length ≤ 1000000 := by show 0 + _ ≤ _; omega
    have HQ4b : Hid (DAt ((wr.alloc (.cells #[.string key, .slice none 0 0] 27)).alloc (.cells #[] 61)) g4 (.string ⟨#[]⟩) (.slice none 0 0)) := HQ4r.out.keep0 (k5.trans k6)
    have HQ9b : Hid (DAt ((wr.alloc (.cells #[.string key, .slice none 0 0] 27)).alloc (.cells #[] 61)) wr.heap.size (.string key) (.slice none 0 0)) := q9
    have HKb : Hid (Keep0 w ((wr.alloc (.cells #[.string key, .slice none 0 0] 27)).alloc (.cells #[] 61))) := HKr.out.trans (k5.trans k6)
    have HZb : Hid (((wr.alloc (.cells #[.string key, .slice none 0 0] 27)).alloc (.cells #[] 61)).heap.size = wr.heap.size + 2) := z6
    have HG49 : Hid (g4 < wr.heap.size) := HQ4r.out.lt
    clear k5 k6 z5 z6 q9 HQ4r HKr
    go_wp2_with (at_builtin; refine wpList_append_row_at (l := []) plT rfl _ _ rfl rfl rfl hrow hsrc hB hlen ?_)
    intro vl w7 g1 g2 g3
    have g1 : w7.ownsRow (wr.heap.size + 1) 61 7 vl LP.length (rowOf Pl.cells LP) := by simpa using g1
    obtain ⟨la, lc, rfl, h1, h2, h3, h4⟩ := row_of_own plT.len plT.pos g1
    have K7 : Keep0 w w7 := HKb.out.step (keep_grown g2) (fun i hi e => by have := (hrow.lt _ e).1; have := HKb.out.size; have := HG49.out; have := HG4.out; omega)
    generalize ((wr.alloc (.cells #[.string key, .slice none 0 0] 27)).alloc (.cells #[] 61)) = W6 at *
    have k67 := keep_grown g2
    have HQ47 : Hid (DAt w7 g4 (.string ⟨#[]⟩) (.slice none 0 0)) := HQ4b.out.keep k67 (fun e => by have := (hrow.lt _ e).1; have := HG49.out; omega)
    have HQ97 : Hid (DAt w7 wr.heap.size (.string key) (.slice none 0 0)) := HQ9b.out.keep k67 (fun e => by have := (hrow.lt _ e).1; omega)
    have HZ7 : Hid (wr.heap.size + 1 ≤ w7.heap.size) := by show _ ≤ _; have := g2.size; omega
    have HRow7 : Hid (RowAt Pl.cells 7 w7 la LP) := h1
    have HOwn7 : Hid (∀ g off m, la = some ⟨g, off, m⟩ → wr.heap.size + 1 ≤ g) := h2
    have HK7 : Hid (Keep0 w w7) := K7
    clear g1 g2 g3 h1 h2 k67 K7 hrow hsrc hB hlen HQ4b HQ9b HKb HZb
    generalize hg9 : wr.heap.size = g9 at *
    clear hg9 i1
    clear wr
    go_wp2_with fail
    go_loopw [10] (fun v wr => ∃ (L O : List Pl) (la : Option Addr) (lc : Nat) (vo : Option Addr) (vc : Nat), v = .slice la L.length lc ∧ L.length ≤ lc ∧ lc ≤ maxLen ∧ Hid (RowAt Pl.cells 7 wr la L) ∧ Hid (wr.ownsRow (g9 + 1) 61 7 (.slice vo O.length vc) O.length (rowOf Pl.cells O)) ∧ Hid (∀ g off m, la = some ⟨g, off, m⟩ → g9 + 1 ≤ g ∧ Value.ownBlock (.slice vo O.length vc) ≠ some g) ∧ Hid (DAt wr g4 (.string ⟨#[]⟩) (.slice none 0 0)) ∧ Hid (DAt wr g9 (.string key) (.slice vo O.length vc)) ∧ Hid (Sel (LP.map Pl.x) (O.map Pl.x) (L.map Pl.x)) ∧ Hid (∀ p, p ∈ O ++ L → p ∈ LP) ∧ O.length + L.length ≤ 16 ∧ Hid (Keep0 w wr) ∧ Hid (g9 + 1 ≤ wr.heap.size)) (fun v _ => sliceLen v)
    case atStart => exact ⟨LP, [], la, lc, none, 0, rfl, h3, h4, HRow7, ⟨by show 0 = 0 * 7; rfl, .inl ⟨rfl, rfl⟩⟩, fun g off m e => ⟨HOwn7.out g off m e, (fun e2 => by cases e2)⟩, HQ47, HQ97, Sel.start _, (fun p hp => hp), by show 0 + _ ≤ _; omega, HK7, HZ7⟩
    case round =>
      clear HRow7 HOwn7 HQ47 HQ97 HK7 HZ7
      obtain ⟨L, O, la, lc, vo, vc, rfl, hlc, hlm, HRow, HOr, HAp, HQ4r, HQ9r, HSel, HMem, hsum, HKw, HZw⟩ := hrel
      obtain ⟨wo, ewo⟩ : ∃ z : World, z = wr := ⟨wr, rfl⟩
      subst ewo
      by_cases hL : L.length = 0
      · have eL : L = [] := List.eq_nil_of_length_eq_zero hL
        subst eL
        obtain ⟨hperm, hrise⟩ := HSel.out.done
        have HV : Hid (oSort key (LP.map Pl.x) = (⟨key, O.map Pl.x⟩, 0)) := oSort_yes HOut.out HBad.out hperm hrise
        obtain ⟨vo', vc', e9, r1, r2, r3, r4⟩ := row_of_own plT.len plT.pos HOr.out
        cases e9
        have HPl : Hid (PlsAt wo vo O) := ⟨r1, fun p hp => (HC.out.ins p (HMem.out p (by simpa using hp))).keep0 HKw.out⟩
        have HOwn : Hid (∀ g off m, vo = some ⟨g, off, m⟩ → g9 + 1 ≤ g) := r2
        obtain ⟨u0, u1, f0, f1⟩ := HQ4r.out.cells
        obtain ⟨t0, t1, h0, h1⟩ := HQ9r.out.cells
        have HCP : Hid (O.length ≤ vc ∧ vc ≤ maxLen) := ⟨r3, r4⟩
        clear hperm hrise r1 r2 r3 r4 HSel hL HE
        go_wp2
        refine bodyPost_ret (retOb2 rfl _ _ _ rfl (HQ4r.out.put (.string key) (.slice vo O.length vc))) rfl ?_
        refine HM.out _ _ O vo vc HV.out rfl ?_ (fun g off m e => by have := HOwn.out g off m e; have := HG49.out; have := HG4.out; omega) HCP.out (HKw.out.step (put2_keep _ _ _ _) (fun i hi hh => by have := HG4.out; omega))
        refine ⟨HPl.out.row.keep (put2_keep _ _ _ _) (fun g off m e hh => by have := HOwn.out g off m e; have := HG49.out; omega), fun p hp => ?_⟩
        have hin := HC.out.ins p (HMem.out p (by simpa using hp))
        have kk : Keep0 w _ := HKw.out.step (put2_keep wo g4 (.string key) (.slice vo O.length vc)) (fun i hi hh => by have := HG4.out; omega)
        exact SibIn.keep0 hin kk
      have i1 : (0 : Int) < L.length := by omega
      have i1n : 0 < L.length := by omega
      have i2 : (L.length : Int) ≤ 9223372036854775807 := by omega
      have HLow0 : Hid (Low L 0 1) := Low.start L
      go_wp2_with fail
      go_loopw [11, 12] (fun kv iv wr => ∃ (k i : Nat), kv = .int .i64 (k : Int) ∧ iv = .int .i64 (i : Int) ∧ k < L.length ∧ 1 ≤ i ∧ i ≤ L.length ∧ Hid (Low L k i) ∧ Hid (Keep0 wo wr)) (fun _ iv _ => L.length - (intOf iv).toNat)
      case atStart => exact ⟨0, 1, rfl, rfl, i1n, Nat.le_refl _, i1n, HLow0, Keep.refl _ _⟩
      case round =>
        clear HLow0
        obtain ⟨k, i, rfl, rfl, hkl, hi1, hil, HLow, HKi⟩ := hrel
        by_cases hlt : i < L.length
        · have i3 : (i : Int) < L.length := by omega
          have i4 : (k : Int) < L.length := by omega
          have hPl : PlsAt wr la L := ⟨HRow.out.keep0 HKi.out, fun p hp => (HC.out.ins p (HMem.out p (List.mem_append_right _ hp))).keep0 (HKw.out.trans HKi.out)⟩
          obtain ⟨bb, off, eao, s1, s2⟩ := hPl.at_ i hlt
          obtain ⟨bb', off', eao', s3, s4⟩ := hPl.at_ k hkl
          rw [eao] at eao'
          cases eao'
          subst eao
          have mi := HMem.out _ (List.mem_append_right _ (List.getElem_mem hlt))
          have mk := HMem.out _ (List.mem_append_right _ (List.getElem_mem hkl))
          obtain ⟨ci, hci⟩ := clock_ok (HF.out _ mi) (HPs.out _ mi)
          obtain ⟨ck, hck⟩ := clock_ok (HF.out _ mk) (HPs.out _ mk)
          obtain ⟨a0, a1, a2, a3, a4, a5, a6⟩ := s1
          obtain ⟨b0, b1, b2, b3, b4, b5, b6⟩ := s3
          have HS2 : Hid (SibIn wr L[i].vo L[i].po L[i].pc L[i].x) := s2
          have HS4 : Hid (SibIn wr L[k].vo L[k].po L[k].pc L[k].x) := s4
          have yj := fun W (K : Keep0 wr W) => rclock16 W L[i].vo L[i].vc L[i].po L[i].pc L[i].x (HF.out _ mi) (HS2.out.keep0 K)
          have yk := fun W (K : Keep0 wr W) => rclock16 W L[k].vo L[k].vc L[k].po L[k].pc L[k].x (HF.out _ mk) (HS4.out.keep0 K)
          rw [ci] at yj
          rw [ck] at yk
          have yb := fun W => rbelow_any W (kb L[i].x) (kb L[k].x) hci hck
          have hbl : lBelow (kb L[i].x).data.toList (kb L[k].x).data.toList = bl (kb L[i].x) (kb L[k].x) := rfl
          rw [hbl] at yb
          have HLt : Hid (bl (kb L[i].x) (kb L[k].x) = true → Low L i (i + 1)) := fun hb => HLow.out.other hlt hkl hb
          have HLf : Hid (bl (kb L[i].x) (kb L[k].x) = false → Low L k (i + 1)) := fun hb => HLow.out.same hlt hkl hb
          clear hbl ci ck hci hck s2 s4 mi mk hPl HLow HS2 HS4
          generalize bl (kb L[i].x) (kb L[k].x) = BL at *
          generalize kb L[i].x = KI at *
          generalize kb L[k].x = KK at *
          generalize L[i] = PI at *
          generalize L[k] = PK at *
          go_wp2_with fail
          have KD : Keep0 wr wr.drew := (Keep.refl _ wr).drew
          have z0 : wr.drew.cell? ⟨bb, off + i * 7, none⟩ = some (.slice PI.vo PI.x.k.c.length PI.vc) := KD.cell a0 (fun f => f)
          have z1 : wr.drew.cell? ⟨bb, off + i * 7 + 1, none⟩ = some (.bool PI.x.k.d) := KD.cell a1 (fun f => f)
          have z2 : wr.drew.cell? ⟨bb, off + i * 7 + 2, none⟩ = some (.string PI.x.k.x.a) := KD.cell a2 (fun f => f)
          have z3 : wr.drew.cell? ⟨bb, off + i * 7 + 3, none⟩ = some (.int .u64 (PI.x.k.x.n : Int)) := KD.cell a3 (fun f => f)
          have z4 : wr.drew.cell? ⟨bb, off + i * 7 + 4, none⟩ = some (.slice PI.po PI.x.m.length PI.pc) := KD.cell a4 (fun f => f)
          have z5 : wr.drew.cell? ⟨bb, off + i * 7 + 5, none⟩ = some (.bool PI.x.d) := KD.cell a5 (fun f => f)
          have z6 : wr.drew.cell? ⟨bb, off + i * 7 + 6, none⟩ = some (.string PI.x.v) := KD.cell a6 (fun f => f)
          have z7 : wr.drew.cell? ⟨bb, off + k * 7, none⟩ = some (.slice PK.vo PK.x.k.c.length PK.vc) := KD.cell b0 (fun f => f)
          have z8 : wr.drew.cell? ⟨bb, off + k * 7 + 1, none⟩ = some (.bool PK.x.k.d) := KD.cell b1 (fun f => f)
          have z9 : wr.drew.cell? ⟨bb, off + k * 7 + 2, none⟩ = some (.string PK.x.k.x.a) := KD.cell b2 (fun f => f)
          have z10 : wr.drew.cell? ⟨bb, off + k * 7 + 3, none⟩ = some (.int .u64 (PK.x.k.x.n : Int)) := KD.cell b3 (fun f => f)
          have z11 : wr.drew.cell? ⟨bb, off + k * 7 + 4, none⟩ = some (.slice PK.po PK.x.m.length PK.pc) := KD.cell b4 (fun f => f)
          have z12 : wr.drew.cell? ⟨bb, off + k * 7 + 5, none⟩ = some (.bool PK.x.d) := KD.cell b5 (fun f => f)
          have z13 : wr.drew.cell? ⟨bb, off + k * 7 + 6, none⟩ = some (.string PK.x.v) := KD.cell b6 (fun f => f)
          have yj := fun W (K : Keep0 wr.drew W) => yj W (KD.trans K)
          have yk := fun W (K : Keep0 wr.drew W) => yk W (KD.trans K)
          refine wp_region_held_drew (S := (fun W => W.cell? ⟨bb, off + i * 7, none⟩ = some (.slice PI.vo PI.x.k.c.length PI.vc) ∧ W.cell? ⟨bb, off + i * 7 + 1, none⟩ = some (.bool PI.x.k.d) ∧ W.cell? ⟨bb, off + i * 7 + 2, none⟩ = some (.string PI.x.k.x.a) ∧ W.cell? ⟨bb, off + i * 7 + 3, none⟩ = some (.int .u64 (PI.x.k.x.n : Int)) ∧ W.cell? ⟨bb, off + i * 7 + 4, none⟩ = some (.slice PI.po PI.x.m.length PI.pc) ∧ W.cell? ⟨bb, off + i * 7 + 5, none⟩ = some (.bool PI.x.d) ∧ W.cell? ⟨bb, off + i * 7 + 6, none⟩ = some (.string PI.x.v) ∧ W.cell? ⟨bb, off + k * 7, none⟩ = some (.slice PK.vo PK.x.k.c.length PK.vc) ∧ W.cell? ⟨bb, off + k * 7 + 1, none⟩ = some (.bool PK.x.k.d) ∧ W.cell? ⟨bb, off + k * 7 + 2, none⟩ = some (.string PK.x.k.x.a) ∧ W.cell? ⟨bb, off + k * 7 + 3, none⟩ = some (.int .u64 (PK.x.k.x.n : Int)) ∧ W.cell? ⟨bb, off + k * 7 + 4, none⟩ = some (.slice PK.po PK.x.m.length PK.pc) ∧ W.cell? ⟨bb, off + k * 7 + 5, none⟩ = some (.bool PK.x.d) ∧ W.cell? ⟨bb, off + k * 7 + 6, none⟩ = some (.string PK.x.v))) (by kernel_rfl) ⟨z0, z1, z2, z3, z4, z5, z6, z7, z8, z9, z10, z11, z12, z13⟩ (fun hHeld => ?_)
          generalize wr.drew = WD at *
          refine wpAnyH_take (i := 0) (v := ?t0v) (by simp only [List.getElem?_toArray, List.getElem?_cons_zero] <;> rfl) (by kernel_rfl) (by kernel_rfl) (by kernel_rfl) (by exact fun _ _ _ h => h) (Or.inl ⟨by rfl, ?t0y⟩) hHeld ?t0r
          case t0y => intro w hSw; (try dsimp only at hSw); go_simp <;> rfl
          simp only [Act.put, List.setIfInBounds_toArray, List.set_cons_zero, List.set_cons_succ]
          refine wpAnyH_take (i := 1) (v := ?t1v) (by simp only [List.getElem?_toArray, List.getElem?_cons_succ, List.getElem?_cons_zero] <;> rfl) (by kernel_rfl) (by kernel_rfl) (by kernel_rfl) (by exact fun _ _ _ h => h) (Or.inl ⟨by rfl, ?t1y⟩) hHeld ?t1r
          case t1y => intro w hSw; (try dsimp only at hSw); go_simp <;> rfl
          simp only [Act.put, List.setIfInBounds_toArray, List.set_cons_zero, List.set_cons_succ]
          refine wpAnyH_take (i := 2) (v := ?t2v) (by simp only [List.getElem?_toArray, List.getElem?_cons_succ, List.getElem?_cons_zero] <;> rfl) (by kernel_rfl) (by kernel_rfl) (by kernel_rfl) (by exact fun _ _ _ h => h) (Or.inl ⟨by rfl, ?t2y⟩) hHeld ?t2r
          case t2y => intro w hSw; (try dsimp only at hSw); go_simp <;> rfl
          simp only [Act.put, List.setIfInBounds_toArray, List.set_cons_zero, List.set_cons_succ]
          refine wpAnyH_take (i := 3) (v := ?t3v) (by simp only [List.getElem?_toArray, List.getElem?_cons_succ, List.getElem?_cons_zero] <;> rfl) (by kernel_rfl) (by kernel_rfl) (by kernel_rfl) (by exact fun _ _ _ h => h) (Or.inl ⟨by rfl, ?t3y⟩) hHeld ?t3r
          case t3y => intro w hSw; (try dsimp only at hSw); go_simp <;> rfl
          simp only [Act.put, List.setIfInBounds_toArray, List.set_cons_zero, List.set_cons_succ]
          refine wpAnyH_take (i := 5) (v := ?t4v) (by simp only [List.getElem?_toArray, List.getElem?_cons_succ, List.getElem?_cons_zero] <;> rfl) (by kernel_rfl) (by kernel_rfl) (by kernel_rfl) (by exact fun _ _ _ h => h) (Or.inl ⟨by rfl, ?t4y⟩) hHeld ?t4r
          case t4y => intro w hSw; (try dsimp only at hSw); go_simp <;> rfl
          simp only [Act.put, List.setIfInBounds_toArray, List.set_cons_zero, List.set_cons_succ]
          refine wpAnyH_take (i := 6) (v := ?t5v) (by simp only [List.getElem?_toArray, List.getElem?_cons_succ, List.getElem?_cons_zero] <;> rfl) (by kernel_rfl) (by kernel_rfl) (by kernel_rfl) (by exact fun _ _ _ h => h) (Or.inl ⟨by rfl, ?t5y⟩) hHeld ?t5r
          case t5y => intro w hSw; (try dsimp only at hSw); go_simp <;> rfl
          simp only [Act.put, List.setIfInBounds_toArray, List.set_cons_zero, List.set_cons_succ]
          refine wpAnyH_take (i := 7) (v := ?t6v) (by simp only [List.getElem?_toArray, List.getElem?_cons_succ, List.getElem?_cons_zero] <;> rfl) (by kernel_rfl) (by kernel_rfl) (by kernel_rfl) (by exact fun _ _ _ h => h) (Or.inl ⟨by rfl, ?t6y⟩) hHeld ?t6r
          case t6y => intro w hSw; (try dsimp only at hSw); go_simp <;> rfl
          simp only [Act.put, List.setIfInBounds_toArray, List.set_cons_zero, List.set_cons_succ]
          refine wpAnyH_take (i := 8) (v := ?t7v) (by simp only [List.getElem?_toArray, List.getElem?_cons_succ, List.getElem?_cons_zero] <;> rfl) (by kernel_rfl) (by kernel_rfl) (by kernel_rfl) (by exact fun _ _ _ h => h) (Or.inl ⟨by rfl, ?t7y⟩) hHeld ?t7r
          case t7y => intro w hSw; (try dsimp only at hSw); go_simp <;> rfl
          simp only [Act.put, List.setIfInBounds_toArray, List.set_cons_zero, List.set_cons_succ]
          refine wpAnyH_ready (rs := [4]) (by kernel_rfl) (by simp) ?_
          refine AllReadyH.cons (by simp only [List.getElem?_toArray, List.getElem?_cons_succ, List.getElem?_cons_zero] <;> rfl) (fun K hK => ?_) AllReadyH.nil
          go_simp
          refine (yj WD (Keep.refl _ _)).mono ?_
          rintro e u1 ⟨rfl, k1⟩
          go_wp2_with fail
          refine hK.out _ _ ⟨k1.cell z0 (fun f => f), k1.cell z1 (fun f => f), k1.cell z2 (fun f => f), k1.cell z3 (fun f => f), k1.cell z4 (fun f => f), k1.cell z5 (fun f => f), k1.cell z6 (fun f => f), k1.cell z7 (fun f => f), k1.cell z8 (fun f => f), k1.cell z9 (fun f => f), k1.cell z10 (fun f => f), k1.cell z11 (fun f => f), k1.cell z12 (fun f => f), k1.cell z13 (fun f => f)⟩ (fun hHeld => ?_)
          clear hK K
          refine wpAnyH_ready (rs := [9]) (by kernel_rfl) (by simp) ?_
          refine AllReadyH.cons (by simp only [List.getElem?_toArray, List.getElem?_cons_succ, List.getElem?_cons_zero] <;> rfl) (fun K hK => ?_) AllReadyH.nil
          go_simp
          refine (yk u1 k1).mono ?_
          rintro e u2 ⟨rfl, k2x⟩
          have k2 := k1.trans k2x
          clear k2x
          go_wp2_with fail
          refine hK.out _ _ ⟨k2.cell z0 (fun f => f), k2.cell z1 (fun f => f), k2.cell z2 (fun f => f), k2.cell z3 (fun f => f), k2.cell z4 (fun f => f), k2.cell z5 (fun f => f), k2.cell z6 (fun f => f), k2.cell z7 (fun f => f), k2.cell z8 (fun f => f), k2.cell z9 (fun f => f), k2.cell z10 (fun f => f), k2.cell z11 (fun f => f), k2.cell z12 (fun f => f), k2.cell z13 (fun f => f)⟩ (fun hHeld => ?_)
          clear hK K
          refine wpAnyH_ready (rs := [10]) (by kernel_rfl) (by simp) ?_
          refine AllReadyH.cons (by simp only [List.getElem?_toArray, List.getElem?_cons_succ, List.getElem?_cons_zero] <;> rfl) (fun K hK => ?_) AllReadyH.nil
          go_simp
          refine (yb u2).mono ?_
          rintro e W3 ⟨rfl, hu3⟩
          have k3 := k2.trans (keepN hu3)
          clear hu3
          go_wp2_with fail
          refine hK.out _ _ ⟨k3.cell z0 (fun f => f), k3.cell z1 (fun f => f), k3.cell z2 (fun f => f), k3.cell z3 (fun f => f), k3.cell z4 (fun f => f), k3.cell z5 (fun f => f), k3.cell z6 (fun f => f), k3.cell z7 (fun f => f), k3.cell z8 (fun f => f), k3.cell z9 (fun f => f), k3.cell z10 (fun f => f), k3.cell z11 (fun f => f), k3.cell z12 (fun f => f), k3.cell z13 (fun f => f)⟩ (fun hHeld => ?_)
          clear hK K
          refine wpAnyH_done (by kernel_rfl) ?_ _
          clear hHeld
          have K3 : Hid (Keep0 wo W3) := (HKi.out.trans KD).trans k3
          clear KD k1 k2 k3 yj yk yb z0 z1 z2 z3 z4 z5 z6 z7 z8 z9 z10 z11 z12 z13 a0 a1 a2 a3 a4 a5 a6 b0 b1 b2 b3 b4 b5 b6
          cases BL with
          | true =>
            have HLow2 : Hid (Low L i (i + 1)) := HLt.out rfl
            go_wp2
            go_roundw
            case rel => exact ⟨i, i + 1, by go_num, by go_num, hlt, by omega, by omega, HLow2, K3⟩
            case measure => simp [intOf]; omega
          | false =>
            have HLow2 : Hid (Low L k (i + 1)) := HLf.out rfl
            go_wp2
            go_roundw
            case rel => exact ⟨k, i + 1, by go_num, by go_num, hkl, by omega, by omega, HLow2, K3⟩
            case measure => simp [intOf]; omega
        have i3 : ¬ (i : Int) < L.length := by omega
        have HLowE : Hid (Low L k L.length) := by
          have e : i = L.length := by omega
          show Low L k L.length
          rw [← e]
          exact HLow.out
        have i4 : (k : Int) < L.length := by omega
        have hPl : PlsAt wr la L := ⟨HRow.out.keep0 HKi.out, fun p hp => (HC.out.ins p (HMem.out p (List.mem_append_right _ hp))).keep0 (HKw.out.trans HKi.out)⟩
        obtain ⟨bb, off, eao, s3, s4⟩ := hPl.at_ k hkl
        subst eao
        have HRowi : Hid (RowAt Pl.cells 7 wr (some ⟨bb, off, none⟩) L) := hPl.row
        have HOri : Hid (wr.ownsRow (g9 + 1) 61 7 (.slice vo O.length vc) O.length (rowOf Pl.cells O)) := rowE_keep HOr.out HKi.out (fun _ _ f => f)
        have HQ4i : Hid (DAt wr g4 (.string ⟨#[]⟩) (.slice none 0 0)) := HQ4r.out.keep0 HKi.out
        have HQ9i : Hid (DAt wr g9 (.string key) (.slice vo O.length vc)) := HQ9r.out.keep0 HKi.out
        have HKi2 : Hid (Keep0 w wr) := HKw.out.trans HKi.out
        have HZi : Hid (g9 + 1 ≤ wr.heap.size) := by show _ ≤ _; have := HKi.out.size; have := HZw.out; omega
        obtain ⟨p0, p1, ph0, ph1⟩ := HQ9i.out.cells
        have i5 : (O.length : Int) ≤ 9223372036854775807 := by omega
        clear HRow HOr HQ4r HQ9r HKw HZw HLow HKi hlt
        go_wp2_with fail
        go_cut [13, 82] from 42 to 102 (fun nv v wx => ∃ B : Bool, nv = .int .i64 (O.length : Int) ∧ v = .bool B ∧ Hid (Keep0 wr wx) ∧ Hid (B = true → oSort key (LP.map Pl.x) = (zOb, 6)) ∧ Hid (B = false → Sel (LP.map Pl.x) ((O ++ [L[k]]).map Pl.x) ((L.take k ++ L.drop (k + 1)).map Pl.x)))
        case first =>
          by_cases hO : O.length = 0
          · have HSel2 : Hid (Sel (LP.map Pl.x) ((O ++ [L[k]]).map Pl.x) ((L.take k ++ L.drop (k + 1)).map Pl.x)) := sel_map HSel.out hkl HLowE.out (fun h => by omega)
            have i6 : decide (0 < O.length) = false := decide_eq_false (by omega)
            have i6' : ¬ 0 < O.length := by omega
            have HO0 : Hid (O.length = 0) := hO
            clear s3 s4 hPl HSel HLowE hO
            refine wp_region_held_drew (S := (fun _ => True)) (by kernel_rfl) trivial (fun hHeld => ?_)
            refine wpAnyH_take (i := 0) (v := ?n0v) (by simp only [List.getElem?_toArray, List.getElem?_cons_zero] <;> rfl) (by kernel_rfl) (by kernel_rfl) (by kernel_rfl) (by exact fun _ _ _ h => h) (Or.inl ⟨by rfl, ?n0y⟩) hHeld ?n0r
            case n0y => intro w hSw; (try dsimp only at hSw); go_simp <;> rfl
            simp only [Act.put, List.setIfInBounds_toArray, List.set_cons_zero, List.set_cons_succ]
            refine wpAnyH_take (i := 1) (v := ?n1v) (by simp only [List.getElem?_toArray, List.getElem?_cons_succ, List.getElem?_cons_zero] <;> rfl) (by kernel_rfl) (by kernel_rfl) (by kernel_rfl) (by exact fun _ _ _ h => h) (Or.inl ⟨by rfl, ?n1y⟩) hHeld ?n1r
            case n1y => intro w hSw; (try dsimp only at hSw); go_simp <;> rfl
            simp only [Act.put, List.setIfInBounds_toArray, List.set_cons_zero, List.set_cons_succ]
            refine wpAnyH_take (i := 2) (v := ?n2v) (by simp only [List.getElem?_toArray, List.getElem?_cons_succ, List.getElem?_cons_zero] <;> rfl) (by kernel_rfl) (by kernel_rfl) (by kernel_rfl) (by exact fun _ _ _ h => h) (Or.inl ⟨by rfl, ?n2y⟩) hHeld ?n2r
            case n2y => intro w hSw; (try dsimp only at hSw); go_simp <;> rfl
            simp only [Act.put, List.setIfInBounds_toArray, List.set_cons_zero, List.set_cons_succ]
            refine wpAnyH_take (i := 3) (v := undef) (by simp only [List.getElem?_toArray, List.getElem?_cons_succ, List.getElem?_cons_zero] <;> rfl) (by kernel_rfl) (by kernel_rfl) (by kernel_rfl) (by exact fun _ _ _ h => h) (Or.inr ⟨by rfl, rfl⟩) hHeld ?n3r
            simp only [Act.put, List.setIfInBounds_toArray, List.set_cons_zero, List.set_cons_succ]
            refine wpAnyH_take (i := 4) (v := undef) (by simp only [List.getElem?_toArray, List.getElem?_cons_succ, List.getElem?_cons_zero] <;> rfl) (by kernel_rfl) (by kernel_rfl) (by kernel_rfl) (by exact fun _ _ _ h => h) (Or.inr ⟨by rfl, rfl⟩) hHeld ?n4r
            simp only [Act.put, List.setIfInBounds_toArray, List.set_cons_zero, List.set_cons_succ]
            refine wpAnyH_take (i := 5) (v := undef) (by simp only [List.getElem?_toArray, List.getElem?_cons_succ, List.getElem?_cons_zero] <;> rfl) (by kernel_rfl) (by kernel_rfl) (by kernel_rfl) (by exact fun _ _ _ h => h) (Or.inr ⟨by rfl, rfl⟩) hHeld ?n5r
            simp only [Act.put, List.setIfInBounds_toArray, List.set_cons_zero, List.set_cons_succ]
            refine wpAnyH_take (i := 6) (v := undef) (by simp only [List.getElem?_toArray, List.getElem?_cons_succ, List.getElem?_cons_zero] <;> rfl) (by kernel_rfl) (by kernel_rfl) (by kernel_rfl) (by exact fun _ _ _ h => h) (Or.inr ⟨by rfl, rfl⟩) hHeld ?n6r
            simp only [Act.put, List.setIfInBounds_toArray, List.set_cons_zero, List.set_cons_succ]
            refine wpAnyH_take (i := 7) (v := undef) (by simp only [List.getElem?_toArray, List.getElem?_cons_succ, List.getElem?_cons_zero] <;> rfl) (by kernel_rfl) (by kernel_rfl) (by kernel_rfl) (by exact fun _ _ _ h => h) (Or.inr ⟨by rfl, rfl⟩) hHeld ?n7r
            simp only [Act.put, List.setIfInBounds_toArray, List.set_cons_zero, List.set_cons_succ]
            refine wpAnyH_take (i := 8) (v := undef) (by simp only [List.getElem?_toArray, List.getElem?_cons_succ, List.getElem?_cons_zero] <;> rfl) (by kernel_rfl) (by kernel_rfl) (by kernel_rfl) (by exact fun _ _ _ h => h) (Or.inr ⟨by rfl, rfl⟩) hHeld ?n8r
            simp only [Act.put, List.setIfInBounds_toArray, List.set_cons_zero, List.set_cons_succ]
            refine wpAnyH_take (i := 10) (v := undef) (by simp only [List.getElem?_toArray, List.getElem?_cons_succ, List.getElem?_cons_zero] <;> rfl) (by kernel_rfl) (by kernel_rfl) (by kernel_rfl) (by exact fun _ _ _ h => h) (Or.inr ⟨by rfl, rfl⟩) hHeld ?n9r
            simp only [Act.put, List.setIfInBounds_toArray, List.set_cons_zero, List.set_cons_succ]
            refine wpAnyH_take (i := 11) (v := undef) (by simp only [List.getElem?_toArray, List.getElem?_cons_succ, List.getElem?_cons_zero] <;> rfl) (by kernel_rfl) (by kernel_rfl) (by kernel_rfl) (by exact fun _ _ _ h => h) (Or.inr ⟨by rfl, rfl⟩) hHeld ?n10r
            simp only [Act.put, List.setIfInBounds_toArray, List.set_cons_zero, List.set_cons_succ]
            refine wpAnyH_take (i := 12) (v := undef) (by simp only [List.getElem?_toArray, List.getElem?_cons_succ, List.getElem?_cons_zero] <;> rfl) (by kernel_rfl) (by kernel_rfl) (by kernel_rfl) (by exact fun _ _ _ h => h) (Or.inr ⟨by rfl, rfl⟩) hHeld ?n11r
            simp only [Act.put, List.setIfInBounds_toArray, List.set_cons_zero, List.set_cons_succ]
            refine wpAnyH_take (i := 13) (v := undef) (by simp only [List.getElem?_toArray, List.getElem?_cons_succ, List.getElem?_cons_zero] <;> rfl) (by kernel_rfl) (by kernel_rfl) (by kernel_rfl) (by exact fun _ _ _ h => h) (Or.inr ⟨by rfl, rfl⟩) hHeld ?n12r
            simp only [Act.put, List.setIfInBounds_toArray, List.set_cons_zero, List.set_cons_succ]
            refine wpAnyH_ready (rs := [9]) (by kernel_rfl) (by simp) ?_
            refine AllReadyH.cons (by simp only [List.getElem?_toArray, List.getElem?_cons_succ, List.getElem?_cons_zero] <;> rfl) (fun K hK => ?_) AllReadyH.nil
            go_simp
            refine hK.out _ _ hHeld (fun hHeld => ?_)
            clear hK K
            refine wpAnyH_ready (rs := [14]) (by kernel_rfl) (by simp) ?_
            refine AllReadyH.cons (by simp only [List.getElem?_toArray, List.getElem?_cons_succ, List.getElem?_cons_zero] <;> rfl) (fun K hK => ?_) AllReadyH.nil
            go_simp
            refine hK.out _ _ hHeld (fun hHeld => ?_)
            clear hK K
            refine wpAnyH_take (i := 15) (v := undef) (by simp only [List.getElem?_toArray, List.getElem?_cons_succ, List.getElem?_cons_zero] <;> rfl) (by kernel_rfl) (by kernel_rfl) (by kernel_rfl) (by exact fun _ _ _ h => h) (Or.inr ⟨by rfl, rfl⟩) hHeld ?n13r
            simp only [Act.put, List.setIfInBounds_toArray, List.set_cons_zero, List.set_cons_succ]
            refine wpAnyH_take (i := 16) (v := ?n14v) (by simp only [List.getElem?_toArray, List.getElem?_cons_succ, List.getElem?_cons_zero] <;> rfl) (by kernel_rfl) (by kernel_rfl) (by kernel_rfl) (by exact fun _ _ _ h => h) (Or.inl ⟨by rfl, ?n14y⟩) hHeld ?n14r
            case n14y => intro w hSw; (try dsimp only at hSw); go_simp <;> rfl
            simp only [Act.put, List.setIfInBounds_toArray, List.set_cons_zero, List.set_cons_succ]
            refine wpAnyH_done (by kernel_rfl) ?_ _
            clear hHeld
            have kd3 : Keep0 wr wr.drew := (Keep.refl _ wr).drew
            generalize wr.drew = W3 at *
            go_wp2_with fail
            go_meet
            exact ⟨false, by rw [HO0.out], rfl, kd3, (fun e => nomatch e), fun _ => HSel2.out⟩
          obtain ⟨j, hj⟩ : ∃ j, j + 1 = O.length := ⟨O.length - 1, by omega⟩
          have hjl : j < O.length := by omega
          obtain ⟨vo', vc', e9, r1, r2, r3, r4⟩ := row_of_own plT.len plT.pos HOri.out
          cases e9
          have hPO : PlsAt wr vo O := ⟨r1, fun p hp => (HC.out.ins p (HMem.out p (List.mem_append_left _ hp))).keep0 HKi2.out⟩
          obtain ⟨ob, oo, eo, s1, s2⟩ := hPO.at_ j hjl
          subst eo
          have mj := HMem.out _ (List.mem_append_left _ (List.getElem_mem hjl))
          have mk := HMem.out _ (List.mem_append_right _ (List.getElem_mem hkl))
          obtain ⟨cj, hcj⟩ := clock_ok (HF.out _ mj) (HPs.out _ mj)
          obtain ⟨ck, hck⟩ := clock_ok (HF.out _ mk) (HPs.out _ mk)
          obtain ⟨a0, a1, a2, a3, a4, a5, a6⟩ := s1
          obtain ⟨b0, b1, b2, b3, b4, b5, b6⟩ := s3
          have HS2 : Hid (SibIn wr O[j].vo O[j].po O[j].pc O[j].x) := s2
          have HS4 : Hid (SibIn wr L[k].vo L[k].po L[k].pc L[k].x) := s4
          have yj := fun W (K : Keep0 wr W) => rclock16 W O[j].vo O[j].vc O[j].po O[j].pc O[j].x (HF.out _ mj) (HS2.out.keep0 K)
          have yk := fun W (K : Keep0 wr W) => rclock16 W L[k].vo L[k].vc L[k].po L[k].pc L[k].x (HF.out _ mk) (HS4.out.keep0 K)
          rw [cj] at yj
          rw [ck] at yk
          have hlast : ∀ h0 : 0 < O.length, kb O[O.length - 1].x = kb O[j].x := by
            intro h0
            have e : O.length - 1 = j := by omega
            simp only [e]
          have i6 : (O.length : Int) - 1 = (j : Int) := by omega
          have i7 : IntKind.i64.wrap (j : Int) = (j : Int) := by rw [IntKind.wrap_i64]; omega
          have i8 : decide (0 < O.length) = true := decide_eq_true (by omega)
          have i8' : 0 < O.length := by omega
          have i9 : (j : Int) < O.length := by omega
          by_cases hbk : kb O[j].x = kb L[k].x
          · have hap : ¬ Apart (LP.map Pl.x) := HSel.out.same (List.mem_map.2 ⟨_, List.getElem_mem hjl, rfl⟩) (List.mem_map.2 ⟨_, List.getElem_mem hkl, rfl⟩) hbk
            have HV : Hid (oSort key (LP.map Pl.x) = (zOb, 6)) := oSort_same HOut.out HBad.out hap
            rw [hbk] at yj
            clear hap hlast HSel HLowE cj ck hcj hck s2 s4 mj mk hPO hPl r1 r2 r3 r4 hj hbk
            generalize kb L[k].x = KK at *
            generalize O[j] = PI at *
            generalize L[k] = PK at *
            have KD : Keep0 wr wr.drew := (Keep.refl _ wr).drew
            have z0 : wr.drew.cell? ⟨g9, 1, none⟩ = some (.slice (some ⟨ob, oo, none⟩) O.length vc) := KD.cell p1 (fun f => f)
            have z1 : wr.drew.cell? ⟨ob, oo + j * 7, none⟩ = some (.slice PI.vo PI.x.k.c.length PI.vc) := KD.cell a0 (fun f => f)
            have z2 : wr.drew.cell? ⟨ob, oo + j * 7 + 1, none⟩ = some (.bool PI.x.k.d) := KD.cell a1 (fun f => f)
            have z3 : wr.drew.cell? ⟨ob, oo + j * 7 + 2, none⟩ = some (.string PI.x.k.x.a) := KD.cell a2 (fun f => f)
            have z4 : wr.drew.cell? ⟨ob, oo + j * 7 + 3, none⟩ = some (.int .u64 (PI.x.k.x.n : Int)) := KD.cell a3 (fun f => f)
            have z5 : wr.drew.cell? ⟨ob, oo + j * 7 + 4, none⟩ = some (.slice PI.po PI.x.m.length PI.pc) := KD.cell a4 (fun f => f)
            have z6 : wr.drew.cell? ⟨ob, oo + j * 7 + 5, none⟩ = some (.bool PI.x.d) := KD.cell a5 (fun f => f)
            have z7 : wr.drew.cell? ⟨ob, oo + j * 7 + 6, none⟩ = some (.string PI.x.v) := KD.cell a6 (fun f => f)
            have z8 : wr.drew.cell? ⟨bb, off + k * 7, none⟩ = some (.slice PK.vo PK.x.k.c.length PK.vc) := KD.cell b0 (fun f => f)
            have z9 : wr.drew.cell? ⟨bb, off + k * 7 + 1, none⟩ = some (.bool PK.x.k.d) := KD.cell b1 (fun f => f)
            have z10 : wr.drew.cell? ⟨bb, off + k * 7 + 2, none⟩ = some (.string PK.x.k.x.a) := KD.cell b2 (fun f => f)
            have z11 : wr.drew.cell? ⟨bb, off + k * 7 + 3, none⟩ = some (.int .u64 (PK.x.k.x.n : Int)) := KD.cell b3 (fun f => f)
            have z12 : wr.drew.cell? ⟨bb, off + k * 7 + 4, none⟩ = some (.slice PK.po PK.x.m.length PK.pc) := KD.cell b4 (fun f => f)
            have z13 : wr.drew.cell? ⟨bb, off + k * 7 + 5, none⟩ = some (.bool PK.x.d) := KD.cell b5 (fun f => f)
            have z14 : wr.drew.cell? ⟨bb, off + k * 7 + 6, none⟩ = some (.string PK.x.v) := KD.cell b6 (fun f => f)
            have yj := fun W (K : Keep0 wr.drew W) => yj W (KD.trans K)
            have yk := fun W (K : Keep0 wr.drew W) => yk W (KD.trans K)
            refine wp_region_held_drew (S := (fun W => W.cell? ⟨g9, 1, none⟩ = some (.slice (some ⟨ob, oo, none⟩) O.length vc) ∧ W.cell? ⟨ob, oo + j * 7, none⟩ = some (.slice PI.vo PI.x.k.c.length PI.vc) ∧ W.cell? ⟨ob, oo + j * 7 + 1, none⟩ = some (.bool PI.x.k.d) ∧ W.cell? ⟨ob, oo + j * 7 + 2, none⟩ = some (.string PI.x.k.x.a) ∧ W.cell? ⟨ob, oo + j * 7 + 3, none⟩ = some (.int .u64 (PI.x.k.x.n : Int)) ∧ W.cell? ⟨ob, oo + j * 7 + 4, none⟩ = some (.slice PI.po PI.x.m.length PI.pc) ∧ W.cell? ⟨ob, oo + j * 7 + 5, none⟩ = some (.bool PI.x.d) ∧ W.cell? ⟨ob, oo + j * 7 + 6, none⟩ = some (.string PI.x.v) ∧ W.cell? ⟨bb, off + k * 7, none⟩ = some (.slice PK.vo PK.x.k.c.length PK.vc) ∧ W.cell? ⟨bb, off + k * 7 + 1, none⟩ = some (.bool PK.x.k.d) ∧ W.cell? ⟨bb, off + k * 7 + 2, none⟩ = some (.string PK.x.k.x.a) ∧ W.cell? ⟨bb, off + k * 7 + 3, none⟩ = some (.int .u64 (PK.x.k.x.n : Int)) ∧ W.cell? ⟨bb, off + k * 7 + 4, none⟩ = some (.slice PK.po PK.x.m.length PK.pc) ∧ W.cell? ⟨bb, off + k * 7 + 5, none⟩ = some (.bool PK.x.d) ∧ W.cell? ⟨bb, off + k * 7 + 6, none⟩ = some (.string PK.x.v))) (by kernel_rfl) ⟨z0, z1, z2, z3, z4, z5, z6, z7, z8, z9, z10, z11, z12, z13, z14⟩ (fun hHeld => ?_)
            generalize wr.drew = WD at *
            refine wpAnyH_take (i := 0) (v := ?s0v) (by simp only [List.getElem?_toArray, List.getElem?_cons_zero] <;> rfl) (by kernel_rfl) (by kernel_rfl) (by kernel_rfl) (by exact fun _ _ _ h => h) (Or.inl ⟨by rfl, ?s0y⟩) hHeld ?s0r
            case s0y => intro w hSw; (try dsimp only at hSw); go_simp <;> rfl
            simp only [Act.put, List.setIfInBounds_toArray, List.set_cons_zero, List.set_cons_succ]
            refine wpAnyH_take (i := 1) (v := ?s1v) (by simp only [List.getElem?_toArray, List.getElem?_cons_succ, List.getElem?_cons_zero] <;> rfl) (by kernel_rfl) (by kernel_rfl) (by kernel_rfl) (by exact fun _ _ _ h => h) (Or.inl ⟨by rfl, ?s1y⟩) hHeld ?s1r
            case s1y => intro w hSw; (try dsimp only at hSw); go_simp <;> rfl
            simp only [Act.put, List.setIfInBounds_toArray, List.set_cons_zero, List.set_cons_succ]
            refine wpAnyH_take (i := 2) (v := ?s2v) (by simp only [List.getElem?_toArray, List.getElem?_cons_succ, List.getElem?_cons_zero] <;> rfl) (by kernel_rfl) (by kernel_rfl) (by kernel_rfl) (by exact fun _ _ _ h => h) (Or.inl ⟨by rfl, ?s2y⟩) hHeld ?s2r
            case s2y => intro w hSw; (try dsimp only at hSw); go_simp <;> rfl
            simp only [Act.put, List.setIfInBounds_toArray, List.set_cons_zero, List.set_cons_succ]
            refine wpAnyH_take (i := 3) (v := ?s3v) (by simp only [List.getElem?_toArray, List.getElem?_cons_succ, List.getElem?_cons_zero] <;> rfl) (by kernel_rfl) (by kernel_rfl) (by kernel_rfl) (by exact fun _ _ _ h => h) (Or.inl ⟨by rfl, ?s3y⟩) hHeld ?s3r
            case s3y => intro w hSw; (try dsimp only at hSw); go_simp <;> rfl
            simp only [Act.put, List.setIfInBounds_toArray, List.set_cons_zero, List.set_cons_succ]
            refine wpAnyH_take (i := 4) (v := ?s4v) (by simp only [List.getElem?_toArray, List.getElem?_cons_succ, List.getElem?_cons_zero] <;> rfl) (by kernel_rfl) (by kernel_rfl) (by kernel_rfl) (by exact fun _ _ _ h => h) (Or.inl ⟨by rfl, ?s4y⟩) hHeld ?s4r
            case s4y => intro w hSw; (try dsimp only at hSw); go_simp <;> rfl
            simp only [Act.put, List.setIfInBounds_toArray, List.set_cons_zero, List.set_cons_succ]
            refine wpAnyH_take (i := 5) (v := ?s5v) (by simp only [List.getElem?_toArray, List.getElem?_cons_succ, List.getElem?_cons_zero] <;> rfl) (by kernel_rfl) (by kernel_rfl) (by kernel_rfl) (by exact fun _ _ _ h => h) (Or.inl ⟨by rfl, ?s5y⟩) hHeld ?s5r
            case s5y => intro w hSw; (try dsimp only at hSw); go_simp <;> rfl
            simp only [Act.put, List.setIfInBounds_toArray, List.set_cons_zero, List.set_cons_succ]
            refine wpAnyH_take (i := 6) (v := ?s6v) (by simp only [List.getElem?_toArray, List.getElem?_cons_succ, List.getElem?_cons_zero] <;> rfl) (by kernel_rfl) (by kernel_rfl) (by kernel_rfl) (by exact fun _ _ _ h => h) (Or.inl ⟨by rfl, ?s6y⟩) hHeld ?s6r
            case s6y => intro w hSw; (try dsimp only at hSw); go_simp <;> rfl
            simp only [Act.put, List.setIfInBounds_toArray, List.set_cons_zero, List.set_cons_succ]
            refine wpAnyH_take (i := 7) (v := ?s7v) (by simp only [List.getElem?_toArray, List.getElem?_cons_succ, List.getElem?_cons_zero] <;> rfl) (by kernel_rfl) (by kernel_rfl) (by kernel_rfl) (by exact fun _ _ _ h => h) (Or.inl ⟨by rfl, ?s7y⟩) hHeld ?s7r
            case s7y => intro w hSw; (try dsimp only at hSw); go_simp <;> rfl
            simp only [Act.put, List.setIfInBounds_toArray, List.set_cons_zero, List.set_cons_succ]
            refine wpAnyH_take (i := 8) (v := ?s8v) (by simp only [List.getElem?_toArray, List.getElem?_cons_succ, List.getElem?_cons_zero] <;> rfl) (by kernel_rfl) (by kernel_rfl) (by kernel_rfl) (by exact fun _ _ _ h => h) (Or.inl ⟨by rfl, ?s8y⟩) hHeld ?s8r
            case s8y => intro w hSw; (try dsimp only at hSw); go_simp <;> rfl
            simp only [Act.put, List.setIfInBounds_toArray, List.set_cons_zero, List.set_cons_succ]
            refine wpAnyH_take (i := 10) (v := ?s9v) (by simp only [List.getElem?_toArray, List.getElem?_cons_succ, List.getElem?_cons_zero] <;> rfl) (by kernel_rfl) (by kernel_rfl) (by kernel_rfl) (by exact fun _ _ _ h => h) (Or.inl ⟨by rfl, ?s9y⟩) hHeld ?s9r
            case s9y => intro w hSw; (try dsimp only at hSw); go_simp <;> rfl
            simp only [Act.put, List.setIfInBounds_toArray, List.set_cons_zero, List.set_cons_succ]
            refine wpAnyH_take (i := 11) (v := ?s10v) (by simp only [List.getElem?_toArray, List.getElem?_cons_succ, List.getElem?_cons_zero] <;> rfl) (by kernel_rfl) (by kernel_rfl) (by kernel_rfl) (by exact fun _ _ _ h => h) (Or.inl ⟨by rfl, ?s10y⟩) hHeld ?s10r
            case s10y => intro w hSw; (try dsimp only at hSw); go_simp <;> rfl
            simp only [Act.put, List.setIfInBounds_toArray, List.set_cons_zero, List.set_cons_succ]
            refine wpAnyH_take (i := 12) (v := ?s11v) (by simp only [List.getElem?_toArray, List.getElem?_cons_succ, List.getElem?_cons_zero] <;> rfl) (by kernel_rfl) (by kernel_rfl) (by kernel_rfl) (by exact fun _ _ _ h => h) (Or.inl ⟨by rfl, ?s11y⟩) hHeld ?s11r
            case s11y => intro w hSw; (try dsimp only at hSw); go_simp <;> rfl
            simp only [Act.put, List.setIfInBounds_toArray, List.set_cons_zero, List.set_cons_succ]
            refine wpAnyH_take (i := 13) (v := ?s12v) (by simp only [List.getElem?_toArray, List.getElem?_cons_succ, List.getElem?_cons_zero] <;> rfl) (by kernel_rfl) (by kernel_rfl) (by kernel_rfl) (by exact fun _ _ _ h => h) (Or.inl ⟨by rfl, ?s12y⟩) hHeld ?s12r
            case s12y => intro w hSw; (try dsimp only at hSw); go_simp <;> rfl
            simp only [Act.put, List.setIfInBounds_toArray, List.set_cons_zero, List.set_cons_succ]
            refine wpAnyH_ready (rs := [9]) (by kernel_rfl) (by simp) ?_
            refine AllReadyH.cons (by simp only [List.getElem?_toArray, List.getElem?_cons_succ, List.getElem?_cons_zero] <;> rfl) (fun K hK => ?_) AllReadyH.nil
            go_simp
            refine (yj WD (Keep.refl _ _)).mono ?_
            rintro e u1 ⟨rfl, k1⟩
            go_wp2_with fail
            refine hK.out _ _ ⟨k1.cell z0 (fun f => f), k1.cell z1 (fun f => f), k1.cell z2 (fun f => f), k1.cell z3 (fun f => f), k1.cell z4 (fun f => f), k1.cell z5 (fun f => f), k1.cell z6 (fun f => f), k1.cell z7 (fun f => f), k1.cell z8 (fun f => f), k1.cell z9 (fun f => f), k1.cell z10 (fun f => f), k1.cell z11 (fun f => f), k1.cell z12 (fun f => f), k1.cell z13 (fun f => f), k1.cell z14 (fun f => f)⟩ (fun hHeld => ?_)
            clear hK K
            refine wpAnyH_ready (rs := [14]) (by kernel_rfl) (by simp) ?_
            refine AllReadyH.cons (by simp only [List.getElem?_toArray, List.getElem?_cons_succ, List.getElem?_cons_zero] <;> rfl) (fun K hK => ?_) AllReadyH.nil
            go_simp
            refine (yk u1 k1).mono ?_
            rintro e W3 ⟨rfl, k2x⟩
            have k2 := k1.trans k2x
            clear k2x
            go_wp2_with fail
            refine hK.out _ _ ⟨k2.cell z0 (fun f => f), k2.cell z1 (fun f => f), k2.cell z2 (fun f => f), k2.cell z3 (fun f => f), k2.cell z4 (fun f => f), k2.cell z5 (fun f => f), k2.cell z6 (fun f => f), k2.cell z7 (fun f => f), k2.cell z8 (fun f => f), k2.cell z9 (fun f => f), k2.cell z10 (fun f => f), k2.cell z11 (fun f => f), k2.cell z12 (fun f => f), k2.cell z13 (fun f => f), k2.cell z14 (fun f => f)⟩ (fun hHeld => ?_)
            clear hK K
            refine wpAnyH_take (i := 15) (v := ?s13v) (by simp only [List.getElem?_toArray, List.getElem?_cons_succ, List.getElem?_cons_zero] <;> rfl) (by kernel_rfl) (by kernel_rfl) (by kernel_rfl) (by exact fun _ _ _ h => h) (Or.inl ⟨by rfl, ?s13y⟩) hHeld ?s13r
            case s13y => intro w hSw; (try dsimp only at hSw); go_simp <;> rfl
            simp only [Act.put, List.setIfInBounds_toArray, List.set_cons_zero, List.set_cons_succ]
            refine wpAnyH_take (i := 16) (v := ?s14v) (by simp only [List.getElem?_toArray, List.getElem?_cons_succ, List.getElem?_cons_zero] <;> rfl) (by kernel_rfl) (by kernel_rfl) (by kernel_rfl) (by exact fun _ _ _ h => h) (Or.inl ⟨by rfl, ?s14y⟩) hHeld ?s14r
            case s14y => intro w hSw; (try dsimp only at hSw); go_simp <;> rfl
            simp only [Act.put, List.setIfInBounds_toArray, List.set_cons_zero, List.set_cons_succ]
            refine wpAnyH_done (by kernel_rfl) ?_ _
            clear hHeld
            have kd3 : Keep0 wr W3 := KD.trans k2
            clear KD k1 k2 yj yk z0 z1 z2 z3 z4 z5 z6 z7 z8 z9 z10 z11 z12 z13 z14 a0 a1 a2 a3 a4 a5 a6 b0 b1 b2 b3 b4 b5 b6
            go_wp2_with fail
            go_meet
            exact ⟨true, rfl, rfl, kd3, (fun _ => HV.out), (fun e => nomatch e)⟩
          · have HSel2 : Hid (Sel (LP.map Pl.x) ((O ++ [L[k]]).map Pl.x) ((L.take k ++ L.drop (k + 1)).map Pl.x)) := sel_map HSel.out hkl HLowE.out (fun h0 => by rw [hlast h0]; exact hbk)
            obtain ⟨n1, n2, n3⟩ := txt_ne hbk
            have HKL : Hid (∃ z, L[k] = z) := ⟨_, rfl⟩
            clear hlast HSel HLowE cj ck hcj hck s2 s4 mj mk hPO hPl r1 r2 r3 r4 hj hbk
            generalize kb O[j].x = KJ at *
            generalize kb L[k].x = KK at *
            generalize O[j] = PI at *
            obtain ⟨PK, hPK0⟩ := HKL.out
            rw [hPK0] at b0 b1 b2 b3 b4 b5 b6 yk HS4
            have HPK0 : Hid (L[k] = PK) := hPK0
            clear hPK0 HKL
            have KD : Keep0 wr wr.drew := (Keep.refl _ wr).drew
            have z0 : wr.drew.cell? ⟨g9, 1, none⟩ = some (.slice (some ⟨ob, oo, none⟩) O.length vc) := KD.cell p1 (fun f => f)
            have z1 : wr.drew.cell? ⟨ob, oo + j * 7, none⟩ = some (.slice PI.vo PI.x.k.c.length PI.vc) := KD.cell a0 (fun f => f)
            have z2 : wr.drew.cell? ⟨ob, oo + j * 7 + 1, none⟩ = some (.bool PI.x.k.d) := KD.cell a1 (fun f => f)
            have z3 : wr.drew.cell? ⟨ob, oo + j * 7 + 2, none⟩ = some (.string PI.x.k.x.a) := KD.cell a2 (fun f => f)
            have z4 : wr.drew.cell? ⟨ob, oo + j * 7 + 3, none⟩ = some (.int .u64 (PI.x.k.x.n : Int)) := KD.cell a3 (fun f => f)
            have z5 : wr.drew.cell? ⟨ob, oo + j * 7 + 4, none⟩ = some (.slice PI.po PI.x.m.length PI.pc) := KD.cell a4 (fun f => f)
            have z6 : wr.drew.cell? ⟨ob, oo + j * 7 + 5, none⟩ = some (.bool PI.x.d) := KD.cell a5 (fun f => f)
            have z7 : wr.drew.cell? ⟨ob, oo + j * 7 + 6, none⟩ = some (.string PI.x.v) := KD.cell a6 (fun f => f)
            have z8 : wr.drew.cell? ⟨bb, off + k * 7, none⟩ = some (.slice PK.vo PK.x.k.c.length PK.vc) := KD.cell b0 (fun f => f)
            have z9 : wr.drew.cell? ⟨bb, off + k * 7 + 1, none⟩ = some (.bool PK.x.k.d) := KD.cell b1 (fun f => f)
            have z10 : wr.drew.cell? ⟨bb, off + k * 7 + 2, none⟩ = some (.string PK.x.k.x.a) := KD.cell b2 (fun f => f)
            have z11 : wr.drew.cell? ⟨bb, off + k * 7 + 3, none⟩ = some (.int .u64 (PK.x.k.x.n : Int)) := KD.cell b3 (fun f => f)
            have z12 : wr.drew.cell? ⟨bb, off + k * 7 + 4, none⟩ = some (.slice PK.po PK.x.m.length PK.pc) := KD.cell b4 (fun f => f)
            have z13 : wr.drew.cell? ⟨bb, off + k * 7 + 5, none⟩ = some (.bool PK.x.d) := KD.cell b5 (fun f => f)
            have z14 : wr.drew.cell? ⟨bb, off + k * 7 + 6, none⟩ = some (.string PK.x.v) := KD.cell b6 (fun f => f)
            have yj := fun W (K : Keep0 wr.drew W) => yj W (KD.trans K)
            have yk := fun W (K : Keep0 wr.drew W) => yk W (KD.trans K)
            refine wp_region_held_drew (S := (fun W => W.cell? ⟨g9, 1, none⟩ = some (.slice (some ⟨ob, oo, none⟩) O.length vc) ∧ W.cell? ⟨ob, oo + j * 7, none⟩ = some (.slice PI.vo PI.x.k.c.length PI.vc) ∧ W.cell? ⟨ob, oo + j * 7 + 1, none⟩ = some (.bool PI.x.k.d) ∧ W.cell? ⟨ob, oo + j * 7 + 2, none⟩ = some (.string PI.x.k.x.a) ∧ W.cell? ⟨ob, oo + j * 7 + 3, none⟩ = some (.int .u64 (PI.x.k.x.n : Int)) ∧ W.cell? ⟨ob, oo + j * 7 + 4, none⟩ = some (.slice PI.po PI.x.m.length PI.pc) ∧ W.cell? ⟨ob, oo + j * 7 + 5, none⟩ = some (.bool PI.x.d) ∧ W.cell? ⟨ob, oo + j * 7 + 6, none⟩ = some (.string PI.x.v) ∧ W.cell? ⟨bb, off + k * 7, none⟩ = some (.slice PK.vo PK.x.k.c.length PK.vc) ∧ W.cell? ⟨bb, off + k * 7 + 1, none⟩ = some (.bool PK.x.k.d) ∧ W.cell? ⟨bb, off + k * 7 + 2, none⟩ = some (.string PK.x.k.x.a) ∧ W.cell? ⟨bb, off + k * 7 + 3, none⟩ = some (.int .u64 (PK.x.k.x.n : Int)) ∧ W.cell? ⟨bb, off + k * 7 + 4, none⟩ = some (.slice PK.po PK.x.m.length PK.pc) ∧ W.cell? ⟨bb, off + k * 7 + 5, none⟩ = some (.bool PK.x.d) ∧ W.cell? ⟨bb, off + k * 7 + 6, none⟩ = some (.string PK.x.v))) (by kernel_rfl) ⟨z0, z1, z2, z3, z4, z5, z6, z7, z8, z9, z10, z11, z12, z13, z14⟩ (fun hHeld => ?_)
            generalize wr.drew = WD at *
            refine wpAnyH_take (i := 0) (v := ?d0v) (by simp only [List.getElem?_toArray, List.getElem?_cons_zero] <;> rfl) (by kernel_rfl) (by kernel_rfl) (by kernel_rfl) (by exact fun _ _ _ h => h) (Or.inl ⟨by rfl, ?d0y⟩) hHeld ?d0r
            case d0y => intro w hSw; (try dsimp only at hSw); go_simp <;> rfl
            simp only [Act.put, List.setIfInBounds_toArray, List.set_cons_zero, List.set_cons_succ]
            refine wpAnyH_take (i := 1) (v := ?d1v) (by simp only [List.getElem?_toArray, List.getElem?_cons_succ, List.getElem?_cons_zero] <;> rfl) (by kernel_rfl) (by kernel_rfl) (by kernel_rfl) (by exact fun _ _ _ h => h) (Or.inl ⟨by rfl, ?d1y⟩) hHeld ?d1r
            case d1y => intro w hSw; (try dsimp only at hSw); go_simp <;> rfl
            simp only [Act.put, List.setIfInBounds_toArray, List.set_cons_zero, List.set_cons_succ]
            refine wpAnyH_take (i := 2) (v := ?d2v) (by simp only [List.getElem?_toArray, List.getElem?_cons_succ, List.getElem?_cons_zero] <;> rfl) (by kernel_rfl) (by kernel_rfl) (by kernel_rfl) (by exact fun _ _ _ h => h) (Or.inl ⟨by rfl, ?d2y⟩) hHeld ?d2r
            case d2y => intro w hSw; (try dsimp only at hSw); go_simp <;> rfl
            simp only [Act.put, List.setIfInBounds_toArray, List.set_cons_zero, List.set_cons_succ]
            refine wpAnyH_take (i := 3) (v := ?d3v) (by simp only [List.getElem?_toArray, List.getElem?_cons_succ, List.getElem?_cons_zero] <;> rfl) (by kernel_rfl) (by kernel_rfl) (by kernel_rfl) (by exact fun _ _ _ h => h) (Or.inl ⟨by rfl, ?d3y⟩) hHeld ?d3r
            case d3y => intro w hSw; (try dsimp only at hSw); go_simp <;> rfl
            simp only [Act.put, List.setIfInBounds_toArray, List.set_cons_zero, List.set_cons_succ]
            refine wpAnyH_take (i := 4) (v := ?d4v) (by simp only [List.getElem?_toArray, List.getElem?_cons_succ, List.getElem?_cons_zero] <;> rfl) (by kernel_rfl) (by kernel_rfl) (by kernel_rfl) (by exact fun _ _ _ h => h) (Or.inl ⟨by rfl, ?d4y⟩) hHeld ?d4r
            case d4y => intro w hSw; (try dsimp only at hSw); go_simp <;> rfl
            simp only [Act.put, List.setIfInBounds_toArray, List.set_cons_zero, List.set_cons_succ]
            refine wpAnyH_take (i := 5) (v := ?d5v) (by simp only [List.getElem?_toArray, List.getElem?_cons_succ, List.getElem?_cons_zero] <;> rfl) (by kernel_rfl) (by kernel_rfl) (by kernel_rfl) (by exact fun _ _ _ h => h) (Or.inl ⟨by rfl, ?d5y⟩) hHeld ?d5r
            case d5y => intro w hSw; (try dsimp only at hSw); go_simp <;> rfl
            simp only [Act.put, List.setIfInBounds_toArray, List.set_cons_zero, List.set_cons_succ]
            refine wpAnyH_take (i := 6) (v := ?d6v) (by simp only [List.getElem?_toArray, List.getElem?_cons_succ, List.getElem?_cons_zero] <;> rfl) (by kernel_rfl) (by kernel_rfl) (by kernel_rfl) (by exact fun _ _ _ h => h) (Or.inl ⟨by rfl, ?d6y⟩) hHeld ?d6r
            case d6y => intro w hSw; (try dsimp only at hSw); go_simp <;> rfl
            simp only [Act.put, List.setIfInBounds_toArray, List.set_cons_zero, List.set_cons_succ]
            refine wpAnyH_take (i := 7) (v := ?d7v) (by simp only [List.getElem?_toArray, List.getElem?_cons_succ, List.getElem?_cons_zero] <;> rfl) (by kernel_rfl) (by kernel_rfl) (by kernel_rfl) (by exact fun _ _ _ h => h) (Or.inl ⟨by rfl, ?d7y⟩) hHeld ?d7r
            case d7y => intro w hSw; (try dsimp only at hSw); go_simp <;> rfl
            simp only [Act.put, List.setIfInBounds_toArray, List.set_cons_zero, List.set_cons_succ]
            refine wpAnyH_take (i := 8) (v := ?d8v) (by simp only [List.getElem?_toArray, List.getElem?_cons_succ, List.getElem?_cons_zero] <;> rfl) (by kernel_rfl) (by kernel_rfl) (by kernel_rfl) (by exact fun _ _ _ h => h) (Or.inl ⟨by rfl, ?d8y⟩) hHeld ?d8r
            case d8y => intro w hSw; (try dsimp only at hSw); go_simp <;> rfl
            simp only [Act.put, List.setIfInBounds_toArray, List.set_cons_zero, List.set_cons_succ]
            refine wpAnyH_take (i := 10) (v := ?d9v) (by simp only [List.getElem?_toArray, List.getElem?_cons_succ, List.getElem?_cons_zero] <;> rfl) (by kernel_rfl) (by kernel_rfl) (by kernel_rfl) (by exact fun _ _ _ h => h) (Or.inl ⟨by rfl, ?d9y⟩) hHeld ?d9r
            case d9y => intro w hSw; (try dsimp only at hSw); go_simp <;> rfl
            simp only [Act.put, List.setIfInBounds_toArray, List.set_cons_zero, List.set_cons_succ]
            refine wpAnyH_take (i := 11) (v := ?d10v) (by simp only [List.getElem?_toArray, List.getElem?_cons_succ, List.getElem?_cons_zero] <;> rfl) (by kernel_rfl) (by kernel_rfl) (by kernel_rfl) (by exact fun _ _ _ h => h) (Or.inl ⟨by rfl, ?d10y⟩) hHeld ?d10r
            case d10y => intro w hSw; (try dsimp only at hSw); go_simp <;> rfl
            simp only [Act.put, List.setIfInBounds_toArray, List.set_cons_zero, List.set_cons_succ]
            refine wpAnyH_take (i := 12) (v := ?d11v) (by simp only [List.getElem?_toArray, List.getElem?_cons_succ, List.getElem?_cons_zero] <;> rfl) (by kernel_rfl) (by kernel_rfl) (by kernel_rfl) (by exact fun _ _ _ h => h) (Or.inl ⟨by rfl, ?d11y⟩) hHeld ?d11r
            case d11y => intro w hSw; (try dsimp only at hSw); go_simp <;> rfl
            simp only [Act.put, List.setIfInBounds_toArray, List.set_cons_zero, List.set_cons_succ]
            refine wpAnyH_take (i := 13) (v := ?d12v) (by simp only [List.getElem?_toArray, List.getElem?_cons_succ, List.getElem?_cons_zero] <;> rfl) (by kernel_rfl) (by kernel_rfl) (by kernel_rfl) (by exact fun _ _ _ h => h) (Or.inl ⟨by rfl, ?d12y⟩) hHeld ?d12r
            case d12y => intro w hSw; (try dsimp only at hSw); go_simp <;> rfl
            simp only [Act.put, List.setIfInBounds_toArray, List.set_cons_zero, List.set_cons_succ]
            refine wpAnyH_ready (rs := [9]) (by kernel_rfl) (by simp) ?_
            refine AllReadyH.cons (by simp only [List.getElem?_toArray, List.getElem?_cons_succ, List.getElem?_cons_zero] <;> rfl) (fun K hK => ?_) AllReadyH.nil
            go_simp
            refine (yj WD (Keep.refl _ _)).mono ?_
            rintro e u1 ⟨rfl, k1⟩
            go_wp2_with fail
            refine hK.out _ _ ⟨k1.cell z0 (fun f => f), k1.cell z1 (fun f => f), k1.cell z2 (fun f => f), k1.cell z3 (fun f => f), k1.cell z4 (fun f => f), k1.cell z5 (fun f => f), k1.cell z6 (fun f => f), k1.cell z7 (fun f => f), k1.cell z8 (fun f => f), k1.cell z9 (fun f => f), k1.cell z10 (fun f => f), k1.cell z11 (fun f => f), k1.cell z12 (fun f => f), k1.cell z13 (fun f => f), k1.cell z14 (fun f => f)⟩ (fun hHeld => ?_)
            clear hK K
            refine wpAnyH_ready (rs := [14]) (by kernel_rfl) (by simp) ?_
            refine AllReadyH.cons (by simp only [List.getElem?_toArray, List.getElem?_cons_succ, List.getElem?_cons_zero] <;> rfl) (fun K hK => ?_) AllReadyH.nil
            go_simp
            refine (yk u1 k1).mono ?_
            rintro e W3 ⟨rfl, k2x⟩
            have k2 := k1.trans k2x
            clear k2x
            go_wp2_with fail
            refine hK.out _ _ ⟨k2.cell z0 (fun f => f), k2.cell z1 (fun f => f), k2.cell z2 (fun f => f), k2.cell z3 (fun f => f), k2.cell z4 (fun f => f), k2.cell z5 (fun f => f), k2.cell z6 (fun f => f), k2.cell z7 (fun f => f), k2.cell z8 (fun f => f), k2.cell z9 (fun f => f), k2.cell z10 (fun f => f), k2.cell z11 (fun f => f), k2.cell z12 (fun f => f), k2.cell z13 (fun f => f), k2.cell z14 (fun f => f)⟩ (fun hHeld => ?_)
            clear hK K
            refine wpAnyH_take (i := 15) (v := ?d13v) (by simp only [List.getElem?_toArray, List.getElem?_cons_succ, List.getElem?_cons_zero] <;> rfl) (by kernel_rfl) (by kernel_rfl) (by kernel_rfl) (by exact fun _ _ _ h => h) (Or.inl ⟨by rfl, ?d13y⟩) hHeld ?d13r
            case d13y => intro w hSw; (try dsimp only at hSw); go_simp <;> rfl
            simp only [Act.put, List.setIfInBounds_toArray, List.set_cons_zero, List.set_cons_succ]
            refine wpAnyH_take (i := 16) (v := ?d14v) (by simp only [List.getElem?_toArray, List.getElem?_cons_succ, List.getElem?_cons_zero] <;> rfl) (by kernel_rfl) (by kernel_rfl) (by kernel_rfl) (by exact fun _ _ _ h => h) (Or.inl ⟨by rfl, ?d14y⟩) hHeld ?d14r
            case d14y => intro w hSw; (try dsimp only at hSw); go_simp <;> rfl
            simp only [Act.put, List.setIfInBounds_toArray, List.set_cons_zero, List.set_cons_succ]
            refine wpAnyH_done (by kernel_rfl) ?_ _
            clear hHeld
            have kd3 : Keep0 wr W3 := KD.trans k2
            clear KD k1 k2 yj yk z0 z1 z2 z3 z4 z5 z6 z7 z8 z9 z10 z11 z12 z13 z14 a0 a1 a2 a3 a4 a5 a6 b0 b1 b2 b3 b4 b5 b6
            go_wp2_with fail
            go_meet
            exact ⟨false, rfl, rfl, kd3, (fun e => nomatch e), fun _ => HSel2.out⟩
        case rest =>
          obtain ⟨B, rfl, rfl, Hkd3, HV6, HV0⟩ := hcut
          obtain ⟨W3, hW3⟩ : ∃ z : World, z = wc := ⟨_, rfl⟩
          subst hW3
          have kd3 := Hkd3.out
          clear s3 s4 hPl HSel HLowE Hkd3
          cases B with
          | true =>
            have HV : Hid (oSort key (LP.map Pl.x) = (zOb, 6)) := HV6.out rfl
            have q4c := HQ4i.out.keep0 kd3
            have Kc := HKi2.out.trans kd3
            obtain ⟨u0, u1, f0, f1⟩ := q4c.cells
            clear p0 p1 ph0 ph1 kd3 HV6 HV0 HM
            go_wp2
            refine bodyPost_ret (retOb2 rfl _ _ _ rfl (q4c.put (.string ⟨#[]⟩) (.slice none 0 0))) rfl ?_
            exact HE.out _ _ _ HV.out rfl (Kc.step (put2_keep _ _ _ _) (fun i hi hh => by have := HG4.out; omega))
          | false =>
            have HSel2 := HV0
            clear HV6
            replace HSel2 : Hid (Sel (LP.map Pl.x) ((O ++ [L[k]]).map Pl.x) ((L.take k ++ L.drop (k + 1)).map Pl.x)) := HSel2.out rfl
            clear HV0
            have HRow3 : Hid (RowAt Pl.cells 7 W3 (some ⟨bb, off, none⟩) L) := HRowi.out.keep0 kd3
            have HOr3 : Hid (W3.ownsRow (g9 + 1) 61 7 (.slice vo O.length vc) O.length (rowOf Pl.cells O)) := rowE_keep HOri.out kd3 (fun _ _ f => f)
            have HQ4c : Hid (DAt W3 g4 (.string ⟨#[]⟩) (.slice none 0 0)) := HQ4i.out.keep0 kd3
            have HQ9c : Hid (DAt W3 g9 (.string key) (.slice vo O.length vc)) := HQ9i.out.keep0 kd3
            have HK3 : Hid (Keep0 w W3) := HKi2.out.trans kd3
            have HZ3 : Hid (g9 + 1 ≤ W3.heap.size) := by show _ ≤ _; have := kd3.size; have := HZi.out; omega
            have hPK := HRow3.out.take 0
            obtain ⟨b_, o_, e_, hbk⟩ := HRow3.out k hkl
            cases e_
            have b0 : W3.cell? ⟨bb, off + k * 7, none⟩ = some (.slice L[k].vo L[k].x.k.c.length L[k].vc) := hbk 0 _ rfl
            have b1 := hbk 1 _ rfl
            have b2 := hbk 2 _ rfl
            have b3 := hbk 3 _ rfl
            have b4 := hbk 4 _ rfl
            have b5 := hbk 5 _ rfl
            have b6 := hbk 6 _ rfl
            have HPK : Hid (L[k] = L[k]) := rfl
            obtain ⟨PK, hPKe⟩ : ∃ p, L[k] = p := ⟨_, rfl⟩
            rw [hPKe] at b0 b1 b2 b3 b4 b5 b6
            have HPKe : Hid (L[k] = PK) := hPKe
            obtain ⟨p0, p1, ph0, ph1⟩ := HQ9c.out.cells
            clear hbk hPK HPK hPKe kd3 HRowi HOri HQ4i HQ9i HKi2 HZi
            have kS : Keep0 W3 (W3.alloc (.cells #[.slice PK.vo PK.x.k.c.length PK.vc, .bool PK.x.k.d, .string PK.x.k.x.a, .int .u64 (PK.x.k.x.n : Int), .slice PK.po PK.x.m.length PK.pc, .bool PK.x.d, .string PK.x.v] 61)).drew := ((Keep.refl _ W3).alloc _).drew
            have hsrc : RowAt Pl.cells 7 (W3.alloc (.cells #[.slice PK.vo PK.x.k.c.length PK.vc, .bool PK.x.k.d, .string PK.x.k.x.a, .int .u64 (PK.x.k.x.n : Int), .slice PK.po PK.x.m.length PK.pc, .bool PK.x.d, .string PK.x.v] 61)).drew (some ⟨W3.heap.size, 0, none⟩) [PK] := (pl_new W3 61 PK).keep0 (Keep.refl _ _).drew
            have hrow : (W3.alloc (.cells #[.slice PK.vo PK.x.k.c.length PK.vc, .bool PK.x.k.d, .string PK.x.k.x.a, .int .u64 (PK.x.k.x.n : Int), .slice PK.po PK.x.m.length PK.pc, .bool PK.x.d, .string PK.x.v] 61)).drew.ownsRow (g9 + 1) 61 7 (.slice vo O.length vc) O.length (rowOf Pl.cells O) := rowE_keep HOr3.out kS (fun _ _ f => f)
            have hB2 : g9 + 1 ≤ (W3.alloc (.cells #[.slice PK.vo PK.x.k.c.length PK.vc, .bool PK.x.k.d, .string PK.x.k.x.a, .int .u64 (PK.x.k.x.n : Int), .slice PK.po PK.x.m.length PK.pc, .bool PK.x.d, .string PK.x.v] 61)).drew.heap.size := by have := kS.size; have := HZ3.out; omega
            have hlen : O.length + [PK].length ≤ 1000000 := by show _ + 1 ≤ _; omega
            have HQ9d : Hid (DAt (W3.alloc (.cells #[.slice PK.vo PK.x.k.c.length PK.vc, .bool PK.x.k.d, .string PK.x.k.x.a, .int .u64 (PK.x.k.x.n : Int), .slice PK.po PK.x.m.length PK.pc, .bool PK.x.d, .string PK.x.v] 61)).drew g9 (.string key) (.slice vo O.length vc)) := HQ9c.out.keep0 kS
            have hq9 := HQ9d.out.cells
            have HKS : Hid (Keep0 W3 (W3.alloc (.cells #[.slice PK.vo PK.x.k.c.length PK.vc, .bool PK.x.k.d, .string PK.x.k.x.a, .int .u64 (PK.x.k.x.n : Int), .slice PK.po PK.x.m.length PK.pc, .bool PK.x.d, .string PK.x.v] 61)).drew) := kS
            clear kS
            go_wp2_with fail
            go_region_law (refine step_append_row plT rfl _ _ rfl rfl rfl rfl hrow hsrc hB2 hlen ?_; intro v4 w4 g1 g4x g5; obtain ⟨O2, hO2⟩ : ∃ z, O ++ [PK] = z := ⟨_, rfl⟩; rw [hO2] at g1; obtain ⟨ao5, ac5, rfl, _, _, _, _⟩ := row_of_own plT.len plT.pos g1; have q49 := (HQ9d.out.keep (keep_grown g4x) (fun e => by have := (hrow.lt _ e).1; omega)).cells; obtain ⟨y0, y1, y2, y3⟩ := q49)
            all_goals
              have k4 := keep_grown g4x
              have hn4 : ∀ g, Value.ownBlock (.slice vo O.length vc) = some g → g9 + 1 ≤ g := fun g e => (hrow.lt g e).1
              have k5 : Keep1 g9 w4 (w4.setCell ⟨g9, 1, none⟩ (.slice ao5 O2.length ac5)) := set_keep1 _ _ _ _
              have K35 : Keep (fun g => g = g9 ∨ Value.ownBlock (.slice vo O.length vc) = some g) W3 (w4.setCell ⟨g9, 1, none⟩ (.slice ao5 O2.length ac5)) := (((HKS.out.any).trans (k4.mono (fun g _ e => Or.inr e))).trans (k5.mono (fun g _ e => Or.inl e)))
              have HRow5 : Hid (RowAt Pl.cells 7 (w4.setCell ⟨g9, 1, none⟩ (.slice ao5 O2.length ac5)) (some ⟨bb, off, none⟩) L) := HRow3.out.keep K35 (fun g o m e hh => by
                cases e
                have h1 := HAp.out _ _ _ rfl
                rcases hh with hh | hh
                · omega
                · exact h1.2 hh)
              have HO5 : Hid (((w4.setCell ⟨g9, 1, none⟩ (.slice ao5 O2.length ac5))).ownsRow (g9 + 1) 61 7 (.slice ao5 O2.length ac5) O2.length (rowOf Pl.cells O2)) := rowE_keep g1 k5 (fun g hg e => by omega)
              have HQ45 : Hid (DAt (w4.setCell ⟨g9, 1, none⟩ (.slice ao5 O2.length ac5)) g4 (.string ⟨#[]⟩) (.slice none 0 0)) := HQ4c.out.keep K35 (fun hh => by
                have := HG49.out
                rcases hh with hh | hh
                · omega
                · have := hn4 _ hh; omega)
              have HQ95 : Hid (DAt (w4.setCell ⟨g9, 1, none⟩ (.slice ao5 O2.length ac5)) g9 (.string key) (.slice ao5 O2.length ac5)) := (HQ9d.out.keep k4 (fun e => by have := hn4 _ e; omega)).set1 _
              have HK5 : Hid (Keep0 w (w4.setCell ⟨g9, 1, none⟩ (.slice ao5 O2.length ac5))) := HK3.out.step K35 (fun g hg hh => by
                have := HG49.out
                have := HG4.out
                rcases hh with hh | hh
                · omega
                · have := hn4 _ hh; omega)
              have HZ5 : Hid (g9 + 1 ≤ ((w4.setCell ⟨g9, 1, none⟩ (.slice ao5 O2.length ac5))).heap.size) := by show _ ≤ _; have := K35.size; have := HZ3.out; omega
              have HO2 : Hid (O ++ [PK] = O2) := hO2
              have hO2l : O2.length = O.length + 1 := by rw [← hO2, List.length_append]; rfl
              have HO2l : Hid (O2.length = O.length + 1) := hO2l
              clear k4 hn4 k5 K35 HRow3 g1 g4x g5 hO2 hO2l HOr3 HQ4c HQ9c HK3 HZ3 hrow hsrc hB2 hlen HQ9d HKS y0 y1 y2 y3 hq9 b0 b1 b2 b3 b4 b5 b6 p0 p1 ph0 ph1
              generalize (w4.setCell ⟨g9, 1, none⟩ (.slice ao5 O2.length ac5)) = W5 at *
              have KB : Keep0 W5 (W5.alloc (.cells #[] 61)).drew := ((Keep.refl _ W5).alloc _).drew
              have HKB : Hid (Keep0 W5 (W5.alloc (.cells #[] 61)).drew) := KB
              have hrow1 : ((W5.alloc (.cells #[] 61)).drew).ownsRow W5.heap.size 61 7 (.slice (some ⟨W5.heap.size, 0, none⟩) 0 0) ([] : List Pl).length (rowOf Pl.cells []) := rowE_keep (row_made (f := Pl.cells) (k := 7) W5 61) (Keep.refl _ _).drew (fun _ _ f => f)
              have hsrc1 : RowAt Pl.cells 7 (W5.alloc (.cells #[] 61)).drew (some ⟨bb, off, none⟩) (L.take k) := (HRow5.out.take k).keep0 KB
              have hB1 : W5.heap.size ≤ ((W5.alloc (.cells #[] 61)).drew).heap.size := KB.size
              have hlen1 : ([] : List Pl).length + (L.take k).length ≤ 1000000 := by rw [List.length_take]; show 0 + _ ≤ _; omega
              have hn1 : Hid (k = (L.take k).length) := by show _ = _; rw [List.length_take]; omega
              obtain ⟨A, hA, hRA⟩ : ∃ A, (if lc = k + 1 then some (⟨bb, off, none⟩ : Addr) else some ⟨bb, off + (k + 1) * 7, none⟩) = A ∧ RowAt Pl.cells 7 W5 A (L.drop (k + 1)) := by
                by_cases h : lc = k + 1
                · refine ⟨_, if_pos h, ?_⟩
                  rw [List.drop_eq_nil_of_le (by omega)]
                  exact rowAt_nil _ _
                · exact ⟨_, if_neg h, HRow5.out.drop (k + 1)⟩
              have HRA : Hid (RowAt Pl.cells 7 W5 A (L.drop (k + 1))) := hRA
              have j1 : IntKind.i64.wrap ((k : Int) + 1) = (k : Int) + 1 := by rw [IntKind.wrap_i64]; omega
              have j2 : (0 : Int) ≤ (k : Int) + 1 := by omega
              have j3 : (k : Int) + 1 ≤ (L.length : Int) := by omega
              have j4 : ((k : Int) + 1).toNat = k + 1 := by omega
              have j5 : k ≤ lc := by omega
              have j6 : k + 1 ≤ L.length := by omega
              have hn2 : Hid (L.length - (k + 1) = (L.drop (k + 1)).length) := by show _ = _; rw [List.length_drop]
              clear hRA KB
              go_wp2_with fail
              go_region_law (first | (refine step_append_row (l := []) plT rfl _ _ rfl rfl rfl hn1.out hrow1 hsrc1 hB1 hlen1 ?_; intro v6 w6 g1 g4x g5; have K6 : Keep0 W5 w6 := HKB.out.step (keep_grown g4x) (fun i hi e => by have := (hrow1.lt _ e).1; omega); have g1 : w6.ownsRow W5.heap.size 61 7 v6 (L.take k).length (rowOf Pl.cells (L.take k)) := g1; have hsrc2 : RowAt Pl.cells 7 w6 A (L.drop (k + 1)) := HRA.out.keep0 K6; have hB6 : W5.heap.size ≤ w6.heap.size := K6.size; have hlen6 : (L.take k).length + (L.drop (k + 1)).length ≤ 1000000 := by rw [List.length_take, List.length_drop]; omega) | (refine step_append_row plT rfl _ _ rfl rfl rfl hn2.out g1 hsrc2 hB6 hlen6 ?_; intro v8 w8 g6 g7 g8))
              all_goals
                have K8 : Keep0 W5 w8 := K6.step (keep_grown g7) (fun i hi e => by have := (g1.lt _ e).1; omega)
                obtain ⟨L2, hL2⟩ : ∃ z, L.take k ++ L.drop (k + 1) = z := ⟨_, rfl⟩
                rw [hL2] at g6
                obtain ⟨la2, lc2, rfl, r1, r2, r3, r4⟩ := row_of_own plT.len plT.pos g6
                have hl2 : L2.length = L.length - 1 := by rw [← hL2, List.length_append, List.length_take, List.length_drop]; omega
                have HRow8 : Hid (RowAt Pl.cells 7 w8 la2 L2) := r1
                have HO8 : Hid (w8.ownsRow (g9 + 1) 61 7 (.slice ao5 O2.length ac5) O2.length (rowOf Pl.cells O2)) := rowE_keep HO5.out K8 (fun _ _ f => f)
                have HAp8 : Hid (∀ g off m, la2 = some ⟨g, off, m⟩ → g9 + 1 ≤ g ∧ Value.ownBlock (.slice ao5 O2.length ac5) ≠ some g) := fun g off m e => by
                  have h1 := r2 g off m e
                  have h2 := HZ5.out
                  exact ⟨by omega, fun e2 => by have := (HO5.out.lt _ e2).2; omega⟩
                have HQ48 : Hid (DAt w8 g4 (.string ⟨#[]⟩) (.slice none 0 0)) := HQ45.out.keep0 K8
                have HQ98 : Hid (DAt w8 g9 (.string key) (.slice ao5 O2.length ac5)) := HQ95.out.keep0 K8
                have HSel8 : Hid (Sel (LP.map Pl.x) (O2.map Pl.x) (L2.map Pl.x)) := by
                  have h := HSel2.out
                  rw [HPKe.out, HO2.out, hL2] at h
                  exact h
                have HMem8 : Hid (∀ p, p ∈ O2 ++ L2 → p ∈ LP) := by
                  intro p hp
                  rw [← HO2.out, ← HPKe.out, ← hL2] at hp
                  rcases List.mem_append.1 hp with hp | hp
                  · rcases List.mem_append.1 hp with hp | hp
                    · exact HMem.out p (List.mem_append_left _ hp)
                    · rw [List.mem_singleton.1 hp]; exact HMem.out _ (List.mem_append_right _ (List.getElem_mem hkl))
                  · rcases List.mem_append.1 hp with hp | hp
                    · exact HMem.out p (List.mem_append_right _ (List.mem_of_mem_take hp))
                    · exact HMem.out p (List.mem_append_right _ (List.mem_of_mem_drop hp))
                have hsum8 : O2.length + L2.length ≤ 16 := by have := HO2l.out; omega
                have HK8 : Hid (Keep0 w w8) := HK5.out.trans K8
                have HZ8 : Hid (g9 + 1 ≤ w8.heap.size) := by show _ ≤ _; have := K8.size; have := HZ5.out; omega
                have hms : L2.length < L.length := by omega
                clear hL2 r1 r2 K8 K6 g1 g4x g5 g6 g7 g8 hsrc2 hB6 hlen6 hrow1 hsrc1 hB1 hlen1 hl2 HKB HRA hA HRow5 HO5 HQ45 HQ95 HK5 HZ5
                go_wp2
                go_roundw
                case rel =>
                  (repeat apply Exists.intro)
                  exact ⟨⟨L2, O2, la2, lc2, ao5, ac5, rfl, r3, r4, HRow8, HO8, HAp8, HQ48, HQ98, HSel8, HMem8, hsum8, HK8, HZ8⟩, rfl⟩
                case measure => first | exact hms | (simp [sliceLen]; omega)
end Go.Proofs.YtoefibkhlhmlfaaGreat
