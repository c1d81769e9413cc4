/-
  What this seat's claims lean on of the texts Many.
  Conditions: as each theorem states.
-/
import Derived.WalkKit
import Derived.ProofKit
import Derived.Below
import Derived.Deep.Draws
import Derived.Deep.RegionHeld
import Derived.Test.YtmllchembkpdkaaChecked
import Derived.OpenShut
import Derived.ShutString
import Derived.WalkSpells
import Derived.WalkLawsBesides
import Derived.Deep.QuietTactic
import Derived.BigQuiet
import Derived.Laws.Bits64b
import Derived.PlainAid
import Derived.Lib.AppendStr
import Derived.Deep.AppendLies
import Derived.Laws.IdiomStrings
import Derived.Laws.BytesArg
import Derived.Deep.RegionWith
import Derived.Test.YtmllchembkpdkaaZ6
namespace Go.Proofs.Ytmllchembkpdkaa
open Go.RowKit
section
variable {α σ : Type}
def rMany (z : α) (rd : Rdr α) (tst : σ → α → Int) (nxt : σ → α → σ) : Nat → σ → Rdr (List α)
  | 0, _ => rNil []
  | n + 1, st => rMap (fun q : α × List α => q.1 :: q.2) (rSeq (z, []) (rTest z (tst st) rd) (fun x => rMany z rd tst nxt n (nxt st x)))
def mGo (tst : σ → α → Int) (nxt : σ → α → σ) : σ → List α → Int
  | _, [] => 0
  | st, x :: l => if tst st x = 0 then mGo tst nxt (nxt st x) l else tst st x
def eMany (enc : α → ByteArray) : List α → ByteArray
  | [] => ⟨#[]⟩
  | x :: l => enc x ++ eMany enc l
def okMany (ok : α → Prop) (tst : σ → α → Int) (nxt : σ → α → σ) (n : Nat) (st : σ) (l : List α) : Prop := l.length = n ∧ mGo tst nxt st l = 0 ∧ ∀ x ∈ l, ok x
def unconsM (bad : α) (l : List α) : α × List α := match l with
  | [] => (bad, [])
  | x :: r => (x, r)
variable {z bad : α} {rd : Rdr α} {tst : σ → α → Int} {nxt : σ → α → σ} {ok : α → Prop} {enc : α → ByteArray}
theorem many_codec (c : Codec rd ok enc) (hb : ¬ ok bad) : ∀ (n : Nat) (st : σ), Codec (rMany z rd tst nxt n st) (okMany ok tst nxt n st) (eMany enc)
  | 0, st => by
    refine (Codec.nil ([] : List α)).weak (fun v => ?_) (fun v hv => ?_)
    · exact ⟨fun h => List.eq_nil_of_length_eq_zero h.1, fun h => by subst h; exact ⟨rfl, rfl, fun x hx => by cases hx⟩⟩
    · rw [hv]; rfl
  | n + 1, st => by
    have c1 := ((c.test z (tst st)).seq (z, []) (B := fun x => rMany z rd tst nxt n (nxt st x)) (okB := fun x => okMany ok tst nxt n (nxt st x)) (encB := fun _ => eMany enc) (fun x _ => many_codec c hb n (nxt st x)))
    have c2 := c1.map (fun q : α × List α => q.1 :: q.2) (unconsM bad) (fun _ _ => rfl) (fun u hu => by
      cases u with
      | nil => exact absurd hu.1.1 hb
      | cons x r => rfl)
    refine c2.weak (fun v => ?_) (fun v hv => ?_)
    · cases v with
      | nil => exact ⟨fun h => absurd h.1 (by simp), fun h => absurd h.1.1 hb⟩
      | cons x r =>
        show okMany ok tst nxt (n + 1) st (x :: r) ↔ (ok x ∧ tst st x = 0) ∧ okMany ok tst nxt n (nxt st x) r
        unfold okMany
        rw [mGo, List.length_cons]
        constructor
        · rintro ⟨h1, h2, h3⟩
          by_cases h0 : tst st x = 0
          · rw [if_pos h0] at h2
            exact ⟨⟨h3 x List.mem_cons_self, h0⟩, by omega, h2, fun y hy => h3 y (List.mem_cons_of_mem _ hy)⟩
          · rw [if_neg h0] at h2; exact absurd h2 h0
        · rintro ⟨⟨h0, h00⟩, h1, h2, h3⟩
          rw [if_pos h00]
          refine ⟨by omega, h2, fun y hy => ?_⟩
          rcases List.mem_cons.1 hy with rfl | hy
          · exact h0
          · exact h3 y hy
    · cases v with
      | nil => exact absurd hv.1.1 hb
      | cons x r => rfl
def liftM (O : List α) (r : List α × Int × Int) : List α × Int × Int := if r.2.2 = 0 then (O ++ r.1, r.2) else ([], r.2)
variable {s : ByteArray} {a : Int}
theorem liftM_zero (st : σ) (O : List α) : liftM O (rMany z rd tst nxt 0 st s a) = (O, a, 0) := by
  show liftM O ([], a, 0) = _
  unfold liftM
  rw [if_pos rfl, List.append_nil]
theorem liftM_err {n : Nat} {st : σ} (O : List α) (h : (rd s a).2.2 ≠ 0) : liftM O (rMany z rd tst nxt (n + 1) st s a) = ([], (rd s a).2) := by
  have e : (rMany z rd tst nxt (n + 1) st s a).2 = (rd s a).2 := by
    show (rSeq (z, []) (rTest z (tst st) rd) (fun x => rMany z rd tst nxt n (nxt st x)) s a).2 = _
    rw [rSeq_no (by rw [rTest_no h]; exact h), rTest_no h]
  unfold liftM
  rw [if_neg (by rw [e]; exact h), e]
theorem liftM_bad {n : Nat} {st : σ} (O : List α) (h : (rd s a).2.2 = 0) (h1 : tst st (rd s a).1 ≠ 0) : liftM O (rMany z rd tst nxt (n + 1) st s a) = ([], (rd s a).2.1, tst st (rd s a).1) := by
  have e : (rMany z rd tst nxt (n + 1) st s a).2 = ((rd s a).2.1, tst st (rd s a).1) := by
    show (rSeq (z, []) (rTest z (tst st) rd) (fun x => rMany z rd tst nxt n (nxt st x)) s a).2 = _
    rw [rSeq_no (by rw [rTest_bad h h1]; exact h1), rTest_bad h h1]
  unfold liftM
  rw [if_neg (by rw [e]; exact h1), e]
theorem liftM_more {n : Nat} {st : σ} (O : List α) (h : (rd s a).2.2 = 0) (h1 : tst st (rd s a).1 = 0) : liftM O (rMany z rd tst nxt (n + 1) st s a) = liftM (O ++ [(rd s a).1]) (rMany z rd tst nxt n (nxt st (rd s a).1) s (rd s a).2.1) := by
  have ht : rTest z (tst st) rd s a = rd s a := rTest_yes h h1
  by_cases h2 : (rMany z rd tst nxt n (nxt st (rd s a).1) s (rd s a).2.1).2.2 = 0
  · have e : rMany z rd tst nxt (n + 1) st s a = ((rd s a).1 :: (rMany z rd tst nxt n (nxt st (rd s a).1) s (rd s a).2.1).1, (rMany z rd tst nxt n (nxt st (rd s a).1) s (rd s a).2.1).2) := by
      show rMap (fun q : α × List α => q.1 :: q.2) (rSeq (z, []) (rTest z (tst st) rd) (fun x => rMany z rd tst nxt n (nxt st x))) s a = _
      unfold rMap
      rw [rSeq_yes (by rw [ht]; exact h) (by rw [ht]; exact h2), ht]
    unfold liftM
    rw [e, if_pos h2, if_pos h2, List.append_assoc]
    rfl
  · have e : (rMany z rd tst nxt (n + 1) st s a).2 = (rMany z rd tst nxt n (nxt st (rd s a).1) s (rd s a).2.1).2 := by
      show (rSeq (z, []) (rTest z (tst st) rd) (fun x => rMany z rd tst nxt n (nxt st x)) s a).2 = _
      rw [rSeq_mid (by rw [ht]; exact h) (by rw [ht]; exact h2), ht]
    unfold liftM
    rw [e, if_neg h2, if_neg h2]
def mSt (nxt : σ → α → σ) (st : σ) (l : List α) : σ := l.foldl nxt st
theorem mSt_app (st : σ) (l : List α) (x : α) : mSt nxt st (l ++ [x]) = nxt (mSt nxt st l) x := by
  unfold mSt
  rw [List.foldl_append]
  rfl
theorem mGo_drop {st : σ} {l : List α} {k : Nat} (h : k < l.length) : mGo tst nxt (mSt nxt st (l.take k)) (l.drop k) = if tst (mSt nxt st (l.take k)) l[k] = 0 then mGo tst nxt (mSt nxt st (l.take (k + 1))) (l.drop (k + 1)) else tst (mSt nxt st (l.take k)) l[k] := by
  have e : l.take (k + 1) = l.take k ++ [l[k]] := by rw [List.take_add_one, List.getElem?_eq_getElem h]; rfl
  rw [List.drop_eq_getElem_cons h, mGo, e, mSt_app]
theorem eMany_app (l m : List α) : eMany enc (l ++ m) = eMany enc l ++ eMany enc m := by
  induction l with
  | nil =>
    show eMany enc m = ⟨#[]⟩ ++ eMany enc m
    apply ByteArray.ext
    simp
  | cons x l ih =>
    show enc x ++ eMany enc (l ++ m) = (enc x ++ eMany enc l) ++ eMany enc m
    rw [ih, ByteArray.append_assoc]
end
end Go.Proofs.Ytmllchembkpdkaa
