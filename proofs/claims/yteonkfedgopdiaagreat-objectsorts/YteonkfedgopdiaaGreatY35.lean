/-
  What this seat's claims lean on of the texts RefSib3, Beside, DcA.
  Conditions: as each theorem states.
-/
import Derived.WalkKit
import Derived.ProofKit
import Derived.Below
import Derived.Deep.Draws
import Derived.Deep.RegionHeld
import Derived.Test.YteonkfedgopdiaaGreatChecked
import Derived.OpenShut
import Derived.ShutString
import Derived.WalkSpells
import Derived.WalkLawsBesides
import Derived.Deep.QuietTactic
import Derived.BigQuiet
import Derived.Laws.Bits64b
import Derived.PlainAid
import Derived.Lib.AppendStr
import Derived.Deep.AppendLies
import Derived.Laws.IdiomStrings
import Derived.Laws.BytesArg
import Derived.Deep.RegionWith
import Derived.Laws.AppendOwn
import Derived.Deep.DeepAppendWide
import Derived.Deep.Upon
import Derived.Laws.Rows
import Derived.Test.YteonkfedgopdiaaGreatY31
import Derived.Test.YteonkfedgopdiaaGreatY27
import Derived.Test.YteonkfedgopdiaaGreatY20
import Derived.Maps.AppendAt
import Derived.Deep.Slices
import Derived.Test.YteonkfedgopdiaaGreatY30
import Derived.Test.YteonkfedgopdiaaGreatY15
import Derived.Test.YteonkfedgopdiaaGreatY26
import Derived.Test.YteonkfedgopdiaaGreatY33
import Derived.Test.YteonkfedgopdiaaGreatY28
namespace Go.Proofs.YteonkfedgopdiaaGreat
open Go.RowKit
def RTakeS (r : Sb × Int × Int) (s : ByteArray) (b : Nat) (w : World) (e : Ending) (w' : World) : Prop := ∃ vo vc po pc, e = .returned (.agg #[.slice vo r.1.k.c.length vc, .bool r.1.k.d, .string r.1.k.x.a, .int .u64 (r.1.k.x.n : Int), .slice po r.1.m.length pc, .bool r.1.d, .string r.1.v]) ∧ Cur w' b s r.2.1 r.2.2 ∧ SibIn w' vo po pc r.1 ∧ (∀ g off m, vo = some ⟨g, off, m⟩ → w.heap.size ≤ g) ∧ (∀ g off m, po = some ⟨g, off, m⟩ → w.heap.size ≤ g) ∧ Keep1 b w w'
theorem sibIn_zero (w : World) : SibIn w none none 0 zSb := ⟨ens_nil _ _, prs_nil _ _, Nat.le_refl _, Nat.zero_le _⟩
theorem RTakeS.bare {r : Sb × Int × Int} {s : ByteArray} {b : Nat} {w w' : World} {e : Ending} {A E : Int} (hr : r = (zSb, A, E)) (h : e = .returned (.agg #[.slice none 0 0, .bool false, .string ⟨#[]⟩, .int .u64 0, .slice none 0 0, .bool false, .string ⟨#[]⟩])) (h1 : Cur w' b s A E) (h4 : Keep1 b w w') : RTakeS r s b w e w' := by
  subst hr
  exact ⟨none, 0, none, 0, h, h1, sibIn_zero _, (fun _ _ _ e => by cases e), (fun _ _ _ e => by cases e), h4⟩
theorem RTakeS.mk {r : Sb × Int × Int} {s : ByteArray} {b : Nat} {w w' : World} {e : Ending} {A E : Int} {KK : Ck} {PP : List Pr} {GB : Bool} {BT : ByteArray} {vo po : Option Addr} {vc pc : Nat} (hr : r = (⟨KK, PP, GB, BT⟩, A, E)) (h : e = .returned (.agg #[.slice vo KK.c.length vc, .bool KK.d, .string KK.x.a, .int .u64 (KK.x.n : Int), .slice po PP.length pc, .bool GB, .string BT])) (h1 : Cur w' b s A E) (h2 : EnsAt w' vo KK.c) (h2' : PrsAt w' po PP) (hcp : CapP PP pc) (h3 : ∀ g off m, vo = some ⟨g, off, m⟩ → w.heap.size ≤ g) (h3' : ∀ g off m, po = some ⟨g, off, m⟩ → w.heap.size ≤ g) (h4 : Keep1 b w w') : RTakeS r s b w e w' := by
  subst hr
  exact ⟨vo, vc, po, pc, h, h1, ⟨h2, h2', hcp⟩, h3, h3', h4⟩
end Go.Proofs.YteonkfedgopdiaaGreat
namespace Go.Proofs.YteonkfedgopdiaaGreat
open Go.RowKit
theorem DAt.idx {w : World} {g : Nat} {v0 v1 : Value} (h : DAt w g v0 v1) {o : Nat} {u : Value} (hc : w.cell? ⟨g, o, none⟩ = some u) : (o = 0 ∧ u = v0) ∨ (o = 1 ∧ u = v1) := by
  obtain ⟨ty, hk⟩ := h.blk
  match o, hc with
  | 0, hc => simp [World.cell?, hk] at hc; exact .inl ⟨rfl, hc.symm⟩
  | 1, hc => simp [World.cell?, hk] at hc; exact .inr ⟨rfl, hc.symm⟩
  | o + 2, hc => simp [World.cell?, hk] at hc
theorem ens_beside {w w' : World} {g : Nat} {a : ByteArray} {b : Option Addr} {n c : Nat} (hd : DAt w g (.string a) (.slice b n c)) (K : Keep1 g w w') {ao : Option Addr} {l : List En} (h : EnsAt w ao l) : EnsAt w' ao l := by
  intro i hi
  obtain ⟨bb, off, e, h1, h2⟩ := h i hi
  have hb : ¬ bb = g := by
    intro e2
    subst e2
    rcases hd.idx h2 with ⟨_, e3⟩ | ⟨_, e3⟩
    · cases e3
    · cases e3
  exact ⟨bb, off, e, K.cell h1 hb, K.cell h2 hb⟩
theorem prs_beside {w w' : World} {g : Nat} {a : ByteArray} {b : Option Addr} {n c : Nat} (hd : DAt w g (.string a) (.slice b n c)) (K : Keep1 g w w') {ao : Option Addr} {l : List Pr} (h : PrsAt w ao l) : PrsAt w' ao l := by
  intro i hi
  obtain ⟨bb, off, e, h1, h2⟩ := h i hi
  have hb : ¬ bb = g := by
    intro e2
    subst e2
    rcases hd.idx h2 with ⟨e3, _⟩ | ⟨_, e3⟩
    · omega
    · cases e3
  exact ⟨bb, off, e, K.cell h1 hb, K.cell h2 hb⟩
theorem sibs_beside {w w' : World} {g : Nat} {a : ByteArray} {b : Option Addr} {n c : Nat} (hd : DAt w g (.string a) (.slice b n c)) (K : Keep1 g w w') {ao : Option Addr} {l : List Sb} (h : SibsAt w ao l) : SibsAt w' ao l := by
  intro i hi
  obtain ⟨bb, off, vo, vc, po, pc, e, h1, h2⟩ := h i hi
  have hb : ¬ bb = g := by
    intro e2
    subst e2
    rcases hd.idx h1.c0 with ⟨_, e3⟩ | ⟨e3, _⟩
    · cases e3
    · rcases hd.idx h1.c1 with ⟨e4, _⟩ | ⟨e4, _⟩ <;> omega
  exact ⟨bb, off, vo, vc, po, pc, e, h1.keep K hb, ⟨ens_beside hd K h2.ens, prs_beside hd K h2.prs, h2.room⟩⟩
end Go.Proofs.YteonkfedgopdiaaGreat
namespace Go.Proofs.YteonkfedgopdiaaGreat
open Go.RowKit
theorem set_fine {s : ByteArray} {a x : Int} (h : gSet s a x = true) : x = 0 ∧ gErr s a x = 0 := by
  have hb : cByte s a x = 1 := of_decide_eq_true h
  have h2 : x = 0 ∧ a < s.size := by
    refine Decidable.byContradiction fun e => ?_
    unfold cByte at hb
    rw [if_neg e] at hb
    exact absurd hb (by decide)
  obtain ⟨rfl, h3⟩ := h2
  refine ⟨rfl, ?_⟩
  unfold gErr
  rw [if_neg (by omega), cErr_fit (by decide) (by omega)]
theorem set_err {s : ByteArray} {a x : Int} (h : x ≠ 0) : gSet s a x = false ∧ gErr s a x = x ∧ cAt s a x 1 = a := by
  have hb : cByte s a x = 0 := if_neg (fun e => h e.1)
  refine ⟨?_, ?_, cAt_bad 1 h⟩
  · unfold gSet
    rw [hb]
    rfl
  · unfold gErr
    rw [hb, if_neg (by decide), cErr_bad 1 h]
def kWhen (k : Ck) (A F : Int) : Ck × Int × Int := if F = 0 then (k, A, 0) else (zCk, A, F)
theorem when_yes (k : Ck) (A : Int) : kWhen k A 0 = (k, A, 0) := if_pos rfl
theorem when_no {k : Ck} {A F : Int} (h : F ≠ 0) : kWhen k A F = (zCk, A, F) := if_neg h
section
variable {s : ByteArray} {a x : Int} {V : List En} {b E : Int}
theorem chain_plain (hr : rX [] rVec s a x = (V, b, E)) (hv : vCheck V = 0) (hs : gSet s b E = false) :
    rX zCk rClk s a x = kWhen ⟨V, false, zEn⟩ (cAt s b E 1) (cFail (gErr s b E) (kCheck ⟨V, false, zEn⟩)) := by
  by_cases hE : E = 0
  · subst hE
    have hx : x = 0 := by
      refine Decidable.byContradiction fun e => ?_
      rw [rX_no e] at hr
      exact e (congrArg (fun q : List En × Int × Int => q.2.2) hr)
    subst hx
    rw [rX_yes] at hr ⊢
    by_cases hg : gErr s b 0 = 0
    · have hk : kCheck ⟨V, false, zEn⟩ = 0 := by
        rw [check_dot (k := ⟨V, false, zEn⟩) hv]
        exact dot_p0 rfl rfl rfl
      rw [clk_3 hr hg hs, hg, hk, cFail_yes, when_yes]
    · rw [clk_2 hr hg, cFail_no hg, when_no hg]
  · obtain ⟨_, h1, h2⟩ := set_err (s := s) (a := b) hE
    rw [h1, h2, cFail_no hE, when_no hE]
    by_cases hx : x = 0
    · subst hx
      rw [rX_yes] at hr ⊢
      rw [clk_1 (by rw [hr]; exact hE), hr]
    · rw [rX_no hx] at hr ⊢
      have h3 : (a, x) = (b, E) := congrArg (fun q : List En × Int × Int => q.2) hr
      show (zCk, (a, x)) = (zCk, (b, E))
      rw [h3]
theorem chain_dot (hr : rX [] rVec s a x = (V, b, E)) (hv : vCheck V = 0) (hs : gSet s b E = true) {A : Int} (hA : cAt s b E 1 = A) {N : Nat} (hN : tNum s (bAt s A 0 32) (zAct none s A) = (N : Int)) :
    rX zCk rClk s a x = kWhen ⟨V, true, ⟨bTxt s A 0 32, N⟩⟩ (tAt s (bAt s A 0 32) (zAct none s A)) (cFail (tErr s (bAt s A 0 32) (zAct none s A)) (kCheck ⟨V, true, ⟨bTxt s A 0 32, N⟩⟩)) := by
  obtain ⟨rfl, hg⟩ := set_fine hs
  have hx : x = 0 := by
    refine Decidable.byContradiction fun e => ?_
    rw [rX_no e] at hr
    exact e (congrArg (fun q : List En × Int × Int => q.2.2) hr)
  subst hx
  rw [rX_yes] at hr ⊢
  rw [clk_dot hr hg hs, hA]
  have hall := ent_all none s A
  have hz : zCnt s (bAt s A 0 32) (zAct none s A) = if N = 0 then cFail (tErr s (bAt s A 0 32) (zAct none s A)) 7 else tErr s (bAt s A 0 32) (zAct none s A) := by
    unfold zCnt
    rw [hN]
    by_cases h : N = 0
    · subst h; rfl
    · rw [if_neg h, if_neg (by omega)]
  by_cases h3 : tErr s (bAt s A 0 32) (zAct none s A) = 0
  case neg =>
    have hz2 : zCnt s (bAt s A 0 32) (zAct none s A) = tErr s (bAt s A 0 32) (zAct none s A) := by
      rw [hz]
      split
      · exact cFail_no h3 7
      · rfl
    rw [hz2] at hall
    have hd := dot_bad (V := V) (show (rEnt none s A).2.2 ≠ 0 by rw [hall]; exact h3)
    rw [hall] at hd
    rw [hd, if_neg h3, cFail_no h3, when_no h3]
  have h2 : zAct none s A = 0 := by
    refine Decidable.byContradiction fun e => ?_
    rw [tErr_err e] at h3
    exact e h3
  have hsz : (bTxt s A 0 32).size ≤ 32 := zAct_size
  have hne : (bTxt s A 0 32).size ≠ 0 := by
    intro e
    have e2 : aTest none (bTxt s A 0 32) = 14 := if_pos e
    unfold zAct at h2
    rw [e2] at h2
    unfold cFail at h2
    split at h2
    · exact absurd h2 (by decide)
    · rename_i h4; exact h4 h2
  have hck : kCheck ⟨V, true, ⟨bTxt s A 0 32, N⟩⟩ = kDot ⟨V, true, ⟨bTxt s A 0 32, N⟩⟩ := check_dot (k := ⟨V, true, ⟨bTxt s A 0 32, N⟩⟩) hv
  rw [h3, cFail_yes, hck]
  rw [h3] at hz
  by_cases h4 : N = 0
  · rw [if_pos h4, cFail_yes] at hz
    rw [hz] at hall
    have hd := dot_bad (V := V) (show (rEnt none s A).2.2 ≠ 0 by rw [hall]; show (7 : Int) ≠ 0; decide)
    rw [hall] at hd
    rw [hd, if_neg (show ¬ (7 : Int) = 0 by decide), dot_7 (k := ⟨V, true, ⟨bTxt s A 0 32, N⟩⟩) rfl (by show ¬ 32 < (bTxt s A 0 32).size; omega) hne h4, when_no (by decide)]
  · rw [if_neg h4] at hz
    have hf := ent_fine (p := none) hz
    rw [hz] at hall
    have hN2 : (tNum s (bAt s A 0 32) (zAct none s A)).toNat = N := by omega
    rw [hN2] at hf
    have h0 : (rEnt none s A).2.2 = 0 := by rw [hall]
    by_cases h5 : N ≤ vCount V (bTxt s A 0 32)
    · have hd := dot_15' (V := V) h0 (by rw [hf]; exact h5)
      rw [hall] at hd
      rw [hd, if_neg (show ¬ (15 : Int) = 0 by decide), dot_15 (k := ⟨V, true, ⟨bTxt s A 0 32, N⟩⟩) rfl (by show ¬ 32 < (bTxt s A 0 32).size; omega) hne h4 h5, when_no (by decide)]
    · have hd := dot_yes (V := V) h0 (by rw [hf]; exact h5)
      rw [hd, h0, if_pos rfl, hf, hall, dot_0 (k := ⟨V, true, ⟨bTxt s A 0 32, N⟩⟩) rfl (by show ¬ 32 < (bTxt s A 0 32).size; omega) hne h4 h5, when_yes]
end
theorem vec_bad {s : ByteArray} {a : Int} (he : (rVec s a).2.2 ≠ 0) : (rVec s a).1 = [] := by
  by_cases hk : kErr s a 0 64 = 0
  · rw [vec_b hk] at he ⊢
    unfold lift at he ⊢
    split
    · rename_i h; rw [if_pos h] at he; exact absurd h he
    · rfl
  · rw [vec_a hk]
theorem vec_right {s : ByteArray} {a x : Int} (h0 : 0 ≤ a) (h1 : a ≤ s.size) {V : List En} {b E : Int} (hr : rX [] rVec s a x = (V, b, E)) : vCheck V = 0 ∧ Ok10 V := by
  have hn : vCheck [] = 0 ∧ Ok10 [] := ⟨rfl, by simp [Ok10]⟩
  by_cases hx : x = 0
  · subst hx
    rw [rX_yes] at hr
    have e1 : (rVec s a).1 = V := by rw [hr]
    by_cases he : (rVec s a).2.2 = 0
    · obtain ⟨hk, hu⟩ := (vec_codec.read h0 h1 he).1
      rw [e1] at hk hu
      obtain ⟨h2, h3⟩ := (check_zero _).1 hk
      exact ⟨hk, by omega, fun y hy => ⟨by have := (h3.1 y hy).2.1; unfold maxLen; omega, hu y hy⟩⟩
    · rw [vec_bad he] at e1
      rw [← e1]
      exact hn
  · rw [rX_no hx] at hr
    have e1 : [] = V := congrArg Prod.fst hr
    rw [← e1]
    exact hn
end Go.Proofs.YteonkfedgopdiaaGreat
