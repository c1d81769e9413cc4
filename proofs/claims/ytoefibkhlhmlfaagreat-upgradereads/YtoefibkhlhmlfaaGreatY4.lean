/-
  What this seat's claims lean on of the texts Mono2, SortF.
  Conditions: as each theorem states.
-/
import Derived.RunT
import Derived.Calls
import Derived.WalkKit
import Derived.Test.YtoefibkhlhmlfaaGreatY2
import Derived.ProofKit
import Derived.Below
import Derived.Deep.Draws
import Derived.Deep.RegionHeld
import Derived.Test.YtoefibkhlhmlfaaGreatChecked
import Derived.OpenShut
import Derived.ShutString
import Derived.WalkSpells
import Derived.WalkLawsBesides
import Derived.Deep.QuietTactic
import Derived.BigQuiet
import Derived.Shelf.SlSortCmp.WholeK
import Derived.Test.YtoefibkhlhmlfaaGreatY1
namespace Go.Proofs.YtoefibkhlhmlfaaGreat
open Go.RowKit
theorem gElim {β : Type} {d : Nat} {o : Option β} {a : GStep} {f : β → GStep} (ha : gGe d a) (hf : ∀ x, gGe d (f x)) : gGe d (o.elim a f) := by
  cases o with
  | none => exact ha
  | some x => exact hf x
theorem apply_ge {d : Nat} {w : World} (h : d ≤ w.drawn) (p : Program) (li : Bool) (fr : Frame) (cs : List Frame) (dy : Option Dying) (s : Sem Next) : gGe d (stepG.apply p li fr cs dy s w) := by
  unfold stepG.apply
  dsimp only
  have hg : rGe d (if li = true then s.runT p w #[] else (s.run p w, #[])).1 := by
    split
    · exact (runT_ge _ _ _ _).le h
    · exact (run_ge _ _ _).le h
  generalize (if li = true then s.runT p w #[] else (s.run p w, #[])) = q at *
  obtain ⟨r, es⟩ := q
  dsimp only
  refine gGe.after _ ?_
  clear h
  cases r with
  | ok a w1 =>
    have h : d ≤ w1.drawn := hg
    clear hg
    cases a <;> dsimp only <;> (first | exact h | trivial | exact endThrow_ge h _ _ | (refine gGe.after _ ?_; split <;> (first | exact h | trivial | exact endThrow_ge h _ _ | (refine gGe.after _ ?_; split <;> (first | exact h | trivial | exact endThrow_ge h _ _)) | (refine gElim ?_ (fun _ => ?_) <;> (first | exact h | trivial | exact endThrow_ge h _ _)) | (split <;> (first | exact h | trivial | exact endThrow_ge h _ _)))) | (refine gElim ?_ (fun _ => ?_) <;> (first | exact h | trivial | exact endThrow_ge h _ _ | (refine gGe.after _ ?_; split <;> (first | exact h | trivial | exact endThrow_ge h _ _)) | (refine gElim ?_ (fun _ => ?_) <;> (first | exact h | trivial | exact endThrow_ge h _ _)) | (split <;> (first | exact h | trivial | exact endThrow_ge h _ _)))) | (split <;> (first | exact h | trivial | exact endThrow_ge h _ _ | (refine gGe.after _ ?_; split <;> (first | exact h | trivial | exact endThrow_ge h _ _)) | (refine gElim ?_ (fun _ => ?_) <;> (first | exact h | trivial | exact endThrow_ge h _ _)) | (split <;> (first | exact h | trivial | exact endThrow_ge h _ _)))))
  | halt a w1 =>
    have h : d ≤ w1.drawn := hg
    clear hg
    cases a with
    | unsupported u => cases u <;> first | trivial | exact early_ge h _ _ _ _ _
    | _ => first | exact h | trivial | exact endFatal_ge h _ _ _ _ _ | exact endThrow_ge h _ _
theorem oper_ge {d : Nat} {w : World} (h : d ≤ w.drawn) (p : Program) (li : Bool) (fr : Frame) (cs : List Frame) (dy : Option Dying) : gGe d (stepG.oper p li fr cs dy w) := by
  unfold stepG.oper
  split
  · trivial
  · split <;> exact apply_ge h _ _ _ _ _ _
set_option maxHeartbeats 4000000 in
theorem exec_ge {d : Nat} {w : World} (h : d ≤ w.drawn) (p : Program) (main li : Bool) (fr : Frame) (cs : List Frame) (dy : Option Dying) : gGe d (stepG.exec p main li fr cs dy w) := by
  unfold stepG.exec
  dsimp only
  split <;> (first | exact h | trivial | exact doReturn_ge (Nat.le_trans h (runT_ok1 (by assumption))) _ _ _ _ _ _ | exact apply_ge h _ _ _ _ _ _ | exact oper_ge h _ _ _ _ _ | exact Nat.le_trans h (run_ok (by assumption)) | exact Nat.le_trans h (runT_ok1 (by assumption)) | exact Nat.le_trans h (runT_halt1 (by assumption)) | exact apply_ge (Nat.le_trans h (runT_ok1 (by assumption))) _ _ _ _ _ _ | (refine gGe.after _ ?_; split <;> (first | exact h | trivial | exact doReturn_ge (Nat.le_trans h (runT_ok1 (by assumption))) _ _ _ _ _ _ | exact apply_ge h _ _ _ _ _ _ | exact oper_ge h _ _ _ _ _ | exact Nat.le_trans h (run_ok (by assumption)) | exact Nat.le_trans h (runT_ok1 (by assumption)) | exact Nat.le_trans h (runT_halt1 (by assumption)) | exact apply_ge (Nat.le_trans h (runT_ok1 (by assumption))) _ _ _ _ _ _ | (refine gGe.after _ ?_; split <;> (first | exact h | trivial | exact doReturn_ge (Nat.le_trans h (runT_ok1 (by assumption))) _ _ _ _ _ _ | exact apply_ge h _ _ _ _ _ _ | exact oper_ge h _ _ _ _ _ | exact Nat.le_trans h (run_ok (by assumption)) | exact Nat.le_trans h (runT_ok1 (by assumption)) | exact Nat.le_trans h (runT_halt1 (by assumption)) | exact apply_ge (Nat.le_trans h (runT_ok1 (by assumption))) _ _ _ _ _ _ | (refine gGe.after _ ?_; split <;> (first | exact h | trivial | exact doReturn_ge (Nat.le_trans h (runT_ok1 (by assumption))) _ _ _ _ _ _ | exact apply_ge h _ _ _ _ _ _ | exact oper_ge h _ _ _ _ _ | exact Nat.le_trans h (run_ok (by assumption)) | exact Nat.le_trans h (runT_ok1 (by assumption)) | exact Nat.le_trans h (runT_halt1 (by assumption)) | exact apply_ge (Nat.le_trans h (runT_ok1 (by assumption))) _ _ _ _ _ _)) | (refine gElim ?_ (fun _ => ?_) <;> (first | exact h | trivial | exact doReturn_ge (Nat.le_trans h (runT_ok1 (by assumption))) _ _ _ _ _ _ | exact apply_ge h _ _ _ _ _ _ | exact oper_ge h _ _ _ _ _ | exact Nat.le_trans h (run_ok (by assumption)) | exact Nat.le_trans h (runT_ok1 (by assumption)) | exact Nat.le_trans h (runT_halt1 (by assumption)) | exact apply_ge (Nat.le_trans h (runT_ok1 (by assumption))) _ _ _ _ _ _)) | (split <;> (first | exact h | trivial | exact doReturn_ge (Nat.le_trans h (runT_ok1 (by assumption))) _ _ _ _ _ _ | exact apply_ge h _ _ _ _ _ _ | exact oper_ge h _ _ _ _ _ | exact Nat.le_trans h (run_ok (by assumption)) | exact Nat.le_trans h (runT_ok1 (by assumption)) | exact Nat.le_trans h (runT_halt1 (by assumption)) | exact apply_ge (Nat.le_trans h (runT_ok1 (by assumption))) _ _ _ _ _ _)))) | (refine gElim ?_ (fun _ => ?_) <;> (first | exact h | trivial | exact doReturn_ge (Nat.le_trans h (runT_ok1 (by assumption))) _ _ _ _ _ _ | exact apply_ge h _ _ _ _ _ _ | exact oper_ge h _ _ _ _ _ | exact Nat.le_trans h (run_ok (by assumption)) | exact Nat.le_trans h (runT_ok1 (by assumption)) | exact Nat.le_trans h (runT_halt1 (by assumption)) | exact apply_ge (Nat.le_trans h (runT_ok1 (by assumption))) _ _ _ _ _ _ | (refine gGe.after _ ?_; split <;> (first | exact h | trivial | exact doReturn_ge (Nat.le_trans h (runT_ok1 (by assumption))) _ _ _ _ _ _ | exact apply_ge h _ _ _ _ _ _ | exact oper_ge h _ _ _ _ _ | exact Nat.le_trans h (run_ok (by assumption)) | exact Nat.le_trans h (runT_ok1 (by assumption)) | exact Nat.le_trans h (runT_halt1 (by assumption)) | exact apply_ge (Nat.le_trans h (runT_ok1 (by assumption))) _ _ _ _ _ _)) | (refine gElim ?_ (fun _ => ?_) <;> (first | exact h | trivial | exact doReturn_ge (Nat.le_trans h (runT_ok1 (by assumption))) _ _ _ _ _ _ | exact apply_ge h _ _ _ _ _ _ | exact oper_ge h _ _ _ _ _ | exact Nat.le_trans h (run_ok (by assumption)) | exact Nat.le_trans h (runT_ok1 (by assumption)) | exact Nat.le_trans h (runT_halt1 (by assumption)) | exact apply_ge (Nat.le_trans h (runT_ok1 (by assumption))) _ _ _ _ _ _)) | (split <;> (first | exact h | trivial | exact doReturn_ge (Nat.le_trans h (runT_ok1 (by assumption))) _ _ _ _ _ _ | exact apply_ge h _ _ _ _ _ _ | exact oper_ge h _ _ _ _ _ | exact Nat.le_trans h (run_ok (by assumption)) | exact Nat.le_trans h (runT_ok1 (by assumption)) | exact Nat.le_trans h (runT_halt1 (by assumption)) | exact apply_ge (Nat.le_trans h (runT_ok1 (by assumption))) _ _ _ _ _ _)))) | (split <;> (first | exact h | trivial | exact doReturn_ge (Nat.le_trans h (runT_ok1 (by assumption))) _ _ _ _ _ _ | exact apply_ge h _ _ _ _ _ _ | exact oper_ge h _ _ _ _ _ | exact Nat.le_trans h (run_ok (by assumption)) | exact Nat.le_trans h (runT_ok1 (by assumption)) | exact Nat.le_trans h (runT_halt1 (by assumption)) | exact apply_ge (Nat.le_trans h (runT_ok1 (by assumption))) _ _ _ _ _ _ | (refine gGe.after _ ?_; split <;> (first | exact h | trivial | exact doReturn_ge (Nat.le_trans h (runT_ok1 (by assumption))) _ _ _ _ _ _ | exact apply_ge h _ _ _ _ _ _ | exact oper_ge h _ _ _ _ _ | exact Nat.le_trans h (run_ok (by assumption)) | exact Nat.le_trans h (runT_ok1 (by assumption)) | exact Nat.le_trans h (runT_halt1 (by assumption)) | exact apply_ge (Nat.le_trans h (runT_ok1 (by assumption))) _ _ _ _ _ _)) | (refine gElim ?_ (fun _ => ?_) <;> (first | exact h | trivial | exact doReturn_ge (Nat.le_trans h (runT_ok1 (by assumption))) _ _ _ _ _ _ | exact apply_ge h _ _ _ _ _ _ | exact oper_ge h _ _ _ _ _ | exact Nat.le_trans h (run_ok (by assumption)) | exact Nat.le_trans h (runT_ok1 (by assumption)) | exact Nat.le_trans h (runT_halt1 (by assumption)) | exact apply_ge (Nat.le_trans h (runT_ok1 (by assumption))) _ _ _ _ _ _)) | (split <;> (first | exact h | trivial | exact doReturn_ge (Nat.le_trans h (runT_ok1 (by assumption))) _ _ _ _ _ _ | exact apply_ge h _ _ _ _ _ _ | exact oper_ge h _ _ _ _ _ | exact Nat.le_trans h (run_ok (by assumption)) | exact Nat.le_trans h (runT_ok1 (by assumption)) | exact Nat.le_trans h (runT_halt1 (by assumption)) | exact apply_ge (Nat.le_trans h (runT_ok1 (by assumption))) _ _ _ _ _ _)))))) | (refine gElim ?_ (fun _ => ?_) <;> (first | exact h | trivial | exact doReturn_ge (Nat.le_trans h (runT_ok1 (by assumption))) _ _ _ _ _ _ | exact apply_ge h _ _ _ _ _ _ | exact oper_ge h _ _ _ _ _ | exact Nat.le_trans h (run_ok (by assumption)) | exact Nat.le_trans h (runT_ok1 (by assumption)) | exact Nat.le_trans h (runT_halt1 (by assumption)) | exact apply_ge (Nat.le_trans h (runT_ok1 (by assumption))) _ _ _ _ _ _ | (refine gGe.after _ ?_; split <;> (first | exact h | trivial | exact doReturn_ge (Nat.le_trans h (runT_ok1 (by assumption))) _ _ _ _ _ _ | exact apply_ge h _ _ _ _ _ _ | exact oper_ge h _ _ _ _ _ | exact Nat.le_trans h (run_ok (by assumption)) | exact Nat.le_trans h (runT_ok1 (by assumption)) | exact Nat.le_trans h (runT_halt1 (by assumption)) | exact apply_ge (Nat.le_trans h (runT_ok1 (by assumption))) _ _ _ _ _ _ | (refine gGe.after _ ?_; split <;> (first | exact h | trivial | exact doReturn_ge (Nat.le_trans h (runT_ok1 (by assumption))) _ _ _ _ _ _ | exact apply_ge h _ _ _ _ _ _ | exact oper_ge h _ _ _ _ _ | exact Nat.le_trans h (run_ok (by assumption)) | exact Nat.le_trans h (runT_ok1 (by assumption)) | exact Nat.le_trans h (runT_halt1 (by assumption)) | exact apply_ge (Nat.le_trans h (runT_ok1 (by assumption))) _ _ _ _ _ _)) | (refine gElim ?_ (fun _ => ?_) <;> (first | exact h | trivial | exact doReturn_ge (Nat.le_trans h (runT_ok1 (by assumption))) _ _ _ _ _ _ | exact apply_ge h _ _ _ _ _ _ | exact oper_ge h _ _ _ _ _ | exact Nat.le_trans h (run_ok (by assumption)) | exact Nat.le_trans h (runT_ok1 (by assumption)) | exact Nat.le_trans h (runT_halt1 (by assumption)) | exact apply_ge (Nat.le_trans h (runT_ok1 (by assumption))) _ _ _ _ _ _)) | (split <;> (first | exact h | trivial | exact doReturn_ge (Nat.le_trans h (runT_ok1 (by assumption))) _ _ _ _ _ _ | exact apply_ge h _ _ _ _ _ _ | exact oper_ge h _ _ _ _ _ | exact Nat.le_trans h (run_ok (by assumption)) | exact Nat.le_trans h (runT_ok1 (by assumption)) | exact Nat.le_trans h (runT_halt1 (by assumption)) | exact apply_ge (Nat.le_trans h (runT_ok1 (by assumption))) _ _ _ _ _ _)))) | (refine gElim ?_ (fun _ => ?_) <;> (first | exact h | trivial | exact doReturn_ge (Nat.le_trans h (runT_ok1 (by assumption))) _ _ _ _ _ _ | exact apply_ge h _ _ _ _ _ _ | exact oper_ge h _ _ _ _ _ | exact Nat.le_trans h (run_ok (by assumption)) | exact Nat.le_trans h (runT_ok1 (by assumption)) | exact Nat.le_trans h (runT_halt1 (by assumption)) | exact apply_ge (Nat.le_trans h (runT_ok1 (by assumption))) _ _ _ _ _ _ | (refine gGe.after _ ?_; split <;> (first | exact h | trivial | exact doReturn_ge (Nat.le_trans h (runT_ok1 (by assumption))) _ _ _ _ _ _ | exact apply_ge h _ _ _ _ _ _ | exact oper_ge h _ _ _ _ _ | exact Nat.le_trans h (run_ok (by assumption)) | exact Nat.le_trans h (runT_ok1 (by assumption)) | exact Nat.le_trans h (runT_halt1 (by assumption)) | exact apply_ge (Nat.le_trans h (runT_ok1 (by assumption))) _ _ _ _ _ _)) | (refine gElim ?_ (fun _ => ?_) <;> (first | exact h | trivial | exact doReturn_ge (Nat.le_trans h (runT_ok1 (by assumption))) _ _ _ _ _ _ | exact apply_ge h _ _ _ _ _ _ | exact oper_ge h _ _ _ _ _ | exact Nat.le_trans h (run_ok (by assumption)) | exact Nat.le_trans h (runT_ok1 (by assumption)) | exact Nat.le_trans h (runT_halt1 (by assumption)) | exact apply_ge (Nat.le_trans h (runT_ok1 (by assumption))) _ _ _ _ _ _)) | (split <;> (first | exact h | trivial | exact doReturn_ge (Nat.le_trans h (runT_ok1 (by assumption))) _ _ _ _ _ _ | exact apply_ge h _ _ _ _ _ _ | exact oper_ge h _ _ _ _ _ | exact Nat.le_trans h (run_ok (by assumption)) | exact Nat.le_trans h (runT_ok1 (by assumption)) | exact Nat.le_trans h (runT_halt1 (by assumption)) | exact apply_ge (Nat.le_trans h (runT_ok1 (by assumption))) _ _ _ _ _ _)))) | (split <;> (first | exact h | trivial | exact doReturn_ge (Nat.le_trans h (runT_ok1 (by assumption))) _ _ _ _ _ _ | exact apply_ge h _ _ _ _ _ _ | exact oper_ge h _ _ _ _ _ | exact Nat.le_trans h (run_ok (by assumption)) | exact Nat.le_trans h (runT_ok1 (by assumption)) | exact Nat.le_trans h (runT_halt1 (by assumption)) | exact apply_ge (Nat.le_trans h (runT_ok1 (by assumption))) _ _ _ _ _ _ | (refine gGe.after _ ?_; split <;> (first | exact h | trivial | exact doReturn_ge (Nat.le_trans h (runT_ok1 (by assumption))) _ _ _ _ _ _ | exact apply_ge h _ _ _ _ _ _ | exact oper_ge h _ _ _ _ _ | exact Nat.le_trans h (run_ok (by assumption)) | exact Nat.le_trans h (runT_ok1 (by assumption)) | exact Nat.le_trans h (runT_halt1 (by assumption)) | exact apply_ge (Nat.le_trans h (runT_ok1 (by assumption))) _ _ _ _ _ _)) | (refine gElim ?_ (fun _ => ?_) <;> (first | exact h | trivial | exact doReturn_ge (Nat.le_trans h (runT_ok1 (by assumption))) _ _ _ _ _ _ | exact apply_ge h _ _ _ _ _ _ | exact oper_ge h _ _ _ _ _ | exact Nat.le_trans h (run_ok (by assumption)) | exact Nat.le_trans h (runT_ok1 (by assumption)) | exact Nat.le_trans h (runT_halt1 (by assumption)) | exact apply_ge (Nat.le_trans h (runT_ok1 (by assumption))) _ _ _ _ _ _)) | (split <;> (first | exact h | trivial | exact doReturn_ge (Nat.le_trans h (runT_ok1 (by assumption))) _ _ _ _ _ _ | exact apply_ge h _ _ _ _ _ _ | exact oper_ge h _ _ _ _ _ | exact Nat.le_trans h (run_ok (by assumption)) | exact Nat.le_trans h (runT_ok1 (by assumption)) | exact Nat.le_trans h (runT_halt1 (by assumption)) | exact apply_ge (Nat.le_trans h (runT_ok1 (by assumption))) _ _ _ _ _ _)))))) | (split <;> (first | exact h | trivial | exact doReturn_ge (Nat.le_trans h (runT_ok1 (by assumption))) _ _ _ _ _ _ | exact apply_ge h _ _ _ _ _ _ | exact oper_ge h _ _ _ _ _ | exact Nat.le_trans h (run_ok (by assumption)) | exact Nat.le_trans h (runT_ok1 (by assumption)) | exact Nat.le_trans h (runT_halt1 (by assumption)) | exact apply_ge (Nat.le_trans h (runT_ok1 (by assumption))) _ _ _ _ _ _ | (refine gGe.after _ ?_; split <;> (first | exact h | trivial | exact doReturn_ge (Nat.le_trans h (runT_ok1 (by assumption))) _ _ _ _ _ _ | exact apply_ge h _ _ _ _ _ _ | exact oper_ge h _ _ _ _ _ | exact Nat.le_trans h (run_ok (by assumption)) | exact Nat.le_trans h (runT_ok1 (by assumption)) | exact Nat.le_trans h (runT_halt1 (by assumption)) | exact apply_ge (Nat.le_trans h (runT_ok1 (by assumption))) _ _ _ _ _ _ | (refine gGe.after _ ?_; split <;> (first | exact h | trivial | exact doReturn_ge (Nat.le_trans h (runT_ok1 (by assumption))) _ _ _ _ _ _ | exact apply_ge h _ _ _ _ _ _ | exact oper_ge h _ _ _ _ _ | exact Nat.le_trans h (run_ok (by assumption)) | exact Nat.le_trans h (runT_ok1 (by assumption)) | exact Nat.le_trans h (runT_halt1 (by assumption)) | exact apply_ge (Nat.le_trans h (runT_ok1 (by assumption))) _ _ _ _ _ _)) | (refine gElim ?_ (fun _ => ?_) <;> (first | exact h | trivial | exact doReturn_ge (Nat.le_trans h (runT_ok1 (by assumption))) _ _ _ _ _ _ | exact apply_ge h _ _ _ _ _ _ | exact oper_ge h _ _ _ _ _ | exact Nat.le_trans h (run_ok (by assumption)) | exact Nat.le_trans h (runT_ok1 (by assumption)) | exact Nat.le_trans h (runT_halt1 (by assumption)) | exact apply_ge (Nat.le_trans h (runT_ok1 (by assumption))) _ _ _ _ _ _)) | (split <;> (first | exact h | trivial | exact doReturn_ge (Nat.le_trans h (runT_ok1 (by assumption))) _ _ _ _ _ _ | exact apply_ge h _ _ _ _ _ _ | exact oper_ge h _ _ _ _ _ | exact Nat.le_trans h (run_ok (by assumption)) | exact Nat.le_trans h (runT_ok1 (by assumption)) | exact Nat.le_trans h (runT_halt1 (by assumption)) | exact apply_ge (Nat.le_trans h (runT_ok1 (by assumption))) _ _ _ _ _ _)))) | (refine gElim ?_ (fun _ => ?_) <;> (first | exact h | trivial | exact doReturn_ge (Nat.le_trans h (runT_ok1 (by assumption))) _ _ _ _ _ _ | exact apply_ge h _ _ _ _ _ _ | exact oper_ge h _ _ _ _ _ | exact Nat.le_trans h (run_ok (by assumption)) | exact Nat.le_trans h (runT_ok1 (by assumption)) | exact Nat.le_trans h (runT_halt1 (by assumption)) | exact apply_ge (Nat.le_trans h (runT_ok1 (by assumption))) _ _ _ _ _ _ | (refine gGe.after _ ?_; split <;> (first | exact h | trivial | exact doReturn_ge (Nat.le_trans h (runT_ok1 (by assumption))) _ _ _ _ _ _ | exact apply_ge h _ _ _ _ _ _ | exact oper_ge h _ _ _ _ _ | exact Nat.le_trans h (run_ok (by assumption)) | exact Nat.le_trans h (runT_ok1 (by assumption)) | exact Nat.le_trans h (runT_halt1 (by assumption)) | exact apply_ge (Nat.le_trans h (runT_ok1 (by assumption))) _ _ _ _ _ _)) | (refine gElim ?_ (fun _ => ?_) <;> (first | exact h | trivial | exact doReturn_ge (Nat.le_trans h (runT_ok1 (by assumption))) _ _ _ _ _ _ | exact apply_ge h _ _ _ _ _ _ | exact oper_ge h _ _ _ _ _ | exact Nat.le_trans h (run_ok (by assumption)) | exact Nat.le_trans h (runT_ok1 (by assumption)) | exact Nat.le_trans h (runT_halt1 (by assumption)) | exact apply_ge (Nat.le_trans h (runT_ok1 (by assumption))) _ _ _ _ _ _)) | (split <;> (first | exact h | trivial | exact doReturn_ge (Nat.le_trans h (runT_ok1 (by assumption))) _ _ _ _ _ _ | exact apply_ge h _ _ _ _ _ _ | exact oper_ge h _ _ _ _ _ | exact Nat.le_trans h (run_ok (by assumption)) | exact Nat.le_trans h (runT_ok1 (by assumption)) | exact Nat.le_trans h (runT_halt1 (by assumption)) | exact apply_ge (Nat.le_trans h (runT_ok1 (by assumption))) _ _ _ _ _ _)))) | (split <;> (first | exact h | trivial | exact doReturn_ge (Nat.le_trans h (runT_ok1 (by assumption))) _ _ _ _ _ _ | exact apply_ge h _ _ _ _ _ _ | exact oper_ge h _ _ _ _ _ | exact Nat.le_trans h (run_ok (by assumption)) | exact Nat.le_trans h (runT_ok1 (by assumption)) | exact Nat.le_trans h (runT_halt1 (by assumption)) | exact apply_ge (Nat.le_trans h (runT_ok1 (by assumption))) _ _ _ _ _ _ | (refine gGe.after _ ?_; split <;> (first | exact h | trivial | exact doReturn_ge (Nat.le_trans h (runT_ok1 (by assumption))) _ _ _ _ _ _ | exact apply_ge h _ _ _ _ _ _ | exact oper_ge h _ _ _ _ _ | exact Nat.le_trans h (run_ok (by assumption)) | exact Nat.le_trans h (runT_ok1 (by assumption)) | exact Nat.le_trans h (runT_halt1 (by assumption)) | exact apply_ge (Nat.le_trans h (runT_ok1 (by assumption))) _ _ _ _ _ _)) | (refine gElim ?_ (fun _ => ?_) <;> (first | exact h | trivial | exact doReturn_ge (Nat.le_trans h (runT_ok1 (by assumption))) _ _ _ _ _ _ | exact apply_ge h _ _ _ _ _ _ | exact oper_ge h _ _ _ _ _ | exact Nat.le_trans h (run_ok (by assumption)) | exact Nat.le_trans h (runT_ok1 (by assumption)) | exact Nat.le_trans h (runT_halt1 (by assumption)) | exact apply_ge (Nat.le_trans h (runT_ok1 (by assumption))) _ _ _ _ _ _)) | (split <;> (first | exact h | trivial | exact doReturn_ge (Nat.le_trans h (runT_ok1 (by assumption))) _ _ _ _ _ _ | exact apply_ge h _ _ _ _ _ _ | exact oper_ge h _ _ _ _ _ | exact Nat.le_trans h (run_ok (by assumption)) | exact Nat.le_trans h (runT_ok1 (by assumption)) | exact Nat.le_trans h (runT_halt1 (by assumption)) | exact apply_ge (Nat.le_trans h (runT_ok1 (by assumption))) _ _ _ _ _ _)))))))
theorem stepG_ge {d : Nat} {w : World} (h : d ≤ w.drawn) (p : Program) (main : Bool) (g : Goroutine) (li : Bool) : gGe d (stepG p main g w li) := by
  unfold stepG
  dsimp only
  split
  · exact die_ge h _ _ _
  · exact exec_ge h _ _ _ _ _ _
  · exact unwind_ge h _ _ _ _ _
def sGe (d : Nat) : Stepped → Prop
  | .next m => d ≤ m.world.drawn
  | .ended _ _ => True
theorem waitingAt_ge {rest : Rest} {cs : Array CommCase} {w w' : World} (h : waitingAt rest cs w = some w') : w.drawn ≤ w'.drawn := by
  unfold waitingAt at h
  split at h
  · split at h
    · cases h; exact Nat.le_refl _
    · cases h
  · cases h; exact Nat.le_refl _
theorem communicate_ge {d : Nat} {w : World} (h : d ≤ w.drawn) (p : Program) (rest : Rest) (gs : Array Goroutine) (i : Nat) (g : Goroutine) (cs : Array CommCase) (b : Bool) (sh : CommShape) : sGe d (communicate p rest gs i g cs b sh w).1 := by
  unfold communicate
  dsimp only
  split
  · trivial
  · split
    · split
      · split
        · rename_i e
          exact Nat.le_trans h (waitingAt_ge e)
        · trivial
      · exact h
    · split
      · trivial
      · rename_i e
        have h1 := Nat.le_trans h (run_ok e)
        clear h e
        split
        · split
          · rename_i e
            exact Nat.le_trans h1 (run_halt e)
          · trivial
        · exact h1
        · exact h1
        · split
          · exact h1
          · split
            · rename_i e
              have h2 := run_ok e
              exact Nat.le_trans h1 h2
            · trivial
        · exact h1
        · exact h1
        · trivial
theorem look_ge {d : Nat} {w : World} (h : d ≤ w.drawn) (p : Program) (gs : Array Goroutine) (rest : Rest) : sGe d (look p gs rest w) := by
  unfold look
  split
  · dsimp only
    split
    · trivial
    · split
      · trivial
      · split
        · rename_i e
          have h2 := run_ok e
          exact Nat.le_trans h h2
        · trivial
        · trivial
  · trivial
theorem drain_ge (w : World) (c : Nat) : w.drawn ≤ (drain w c).2.drawn := by
  unfold drain
  split <;> exact Nat.le_refl _
theorem retime_ge (m : Machine) (k : Nat) (t : Timer) (a b : Nat) : m.world.drawn ≤ (retime m k t a b).2.world.drawn := by
  unfold retime
  cases t.chan with
  | some c => exact drain_ge m.world c
  | none => exact Nat.le_refl _
theorem named_ge {d : Nat} {m : Machine} {var : Addr} {f : Nat → Timer → Value × Machine} (hf : ∀ k t, d ≤ (f k t).2.world.drawn) {v : Value} {m' : Machine} (h : timerOp.named m var f = .ok (v, m')) : d ≤ m'.world.drawn := by
  unfold timerOp.named at h
  split at h
  · rename_i k _
    have := hf k (m.rest.timers.getD k default)
    cases h' : f k (m.rest.timers.getD k default)
    rw [h'] at h this
    cases h
    exact this
  · cases h
theorem opened_ge {m m' : Machine} {var : Addr} (h : timerOp.opened m var = some m') : m.world.drawn ≤ m'.world.drawn := by
  unfold timerOp.opened at h
  split at h
  · split at h
    · cases h; exact Nat.le_refl _
    · cases h
  · cases h; exact Nat.le_refl _
theorem timerOp_ge {m : Machine} {op : TimerOp} {v : Value} {m' : Machine} (h : timerOp m op = .ok (v, m')) : m.world.drawn ≤ m'.world.drawn := by
  unfold timerOp at h
  split at h
  · split at h
    · cases h; exact Nat.le_refl _
    · split at h
      · split at h
        · cases h
        · cases h; exact Nat.le_refl _
      · cases h
  · exact named_ge (fun _ _ => retime_ge _ _ _ _ _) h
  · split at h
    · rename_i e
      exact Nat.le_trans (opened_ge e) (named_ge (fun _ _ => retime_ge _ _ _ _ _) h)
    · cases h
  · cases h; exact Nat.le_refl _
set_option maxHeartbeats 4000000 in
theorem one_ge (p : Program) (m : Machine) (i : Nat) (li : Bool) : sGe m.world.drawn (Go.runT p m i li).1 := by
  unfold Go.runT
  dsimp only
  cases hq : m.gs.swapAt! i { (default : Goroutine) with status := .finished } with
  | mk g gs =>
    dsimp only
    have hs := stepG_ge (Nat.le_refl m.world.drawn) p (i == 0) g li
    generalize stepG p (i == 0) g m.world li = s at *
    cases s with
    | ended o w es => trivial
    | comm g1 cs b sh w es =>
      have := communicate_ge hs p m.rest gs i g1 cs b sh
      dsimp only
      cases hc : communicate p m.rest gs i g1 cs b sh w with
      | mk r more =>
        rw [hc] at this
        exact this
    | go g1 w es => exact hs
    | spawn g1 c w es => exact hs
    | count g1 w es =>
      dsimp only
      split
      · trivial
      · exact hs
    | alone g1 on w es => exact hs
    | collect g1 w es => exact look_ge hs _ _ _
    | watch g1 w es => exact hs
    | newcoro g1 c q w es => exact hs
    | coroswitch g1 c x w es =>
      dsimp only
      split
      · exact hs
      · exact hs
      · trivial
    | timer g1 op w es =>
      dsimp only
      split
      · rename_i e
        exact Nat.le_trans hs (timerOp_ge e)
      · exact hs
      · trivial
      · trivial
def mGe (d : Nat) : Move → Prop
  | .goroutine m _ => d ≤ m.world.drawn
  | .machine s _ => sGe d s
theorem serve_ge {d : Nat} {m : Machine} (h : d ≤ m.world.drawn) (p : Program) (k : Nat) : sGe d (serve p m k) := by
  unfold serve
  split
  · trivial
  · exact h
  · dsimp only
    split
    · trivial
    · exact h
set_option maxHeartbeats 4000000 in
theorem askOn_ge {d : Nat} {m : Machine} (h : d ≤ m.world.drawn) (p : Program) : mGe d (askOn p m) := by
  have hpick : ∀ (m1 : Machine) (rs : List Nat), d ≤ m1.world.drawn → mGe d (match (choose (.sched rs.length)).run p m1.world with
      | .halt _ w => .machine (.ended (.stuck "sched" "") w)
      | .ok k world =>
        if rs.length ≤ 1 then .goroutine { m1 with world } (rs.getD k 0) else
        match (choose (.extern "sched.slice" 65536)).run p world with
        | .halt _ w => .machine (.ended (.stuck "sched.slice" "") w)
        | .ok n world => .goroutine { m1 with world, rest := { m1.rest with slice := if n = 0 then none else some (rs.getD k 0, n) } } (rs.getD k 0)) := by
    intro m1 rs h1
    split
    · trivial
    · rename_i e
      have h2 := Nat.le_trans h1 (run_ok e)
      split
      · exact h2
      · split
        · trivial
        · rename_i e2
          exact Nat.le_trans h2 (run_ok e2)
  unfold askOn
  dsimp only
  split
  · trivial
  · rename_i e
    have h1 := Nat.le_trans h (run_ok e)
    clear h e
    split
    · exact serve_ge h1 _ _
    · split
      · split
        · exact h1
        · split
          · exact h1
          · split
            · trivial
            · trivial
      · split
        · exact hpick { m with world := _ } _ h1
        · split
          · trivial
          · rename_i e
            exact hpick { m with world := _ } _ (Nat.le_trans h1 (run_ok e))
          · rename_i e
            have h2 := run_ok e
            exact Nat.le_trans h1 h2
          · rename_i e
            have h2 := Nat.le_trans h1 (run_ok e)
            exact hpick (Machine.advanceTo { m with world := _ } _) _ h2
theorem ask2_ge {d : Nat} {m : Machine} (h : d ≤ m.world.drawn) (p : Program) : mGe d (ask p m) := by
  unfold ask
  split
  · split
    · trivial
    · rename_i e
      have h1 := Nat.le_trans h (run_ok e)
      have h2 := look_ge h1 p m.gs m.rest
      split
      · rename_i e2
        rw [e2] at h2
        exact askOn_ge h2 p
      · rename_i e2 _
        exact h2
    · rename_i e
      have h1 := Nat.le_trans h (run_ok e)
      exact askOn_ge (m := { m with world := _ }) h1 p
  · exact askOn_ge h p
theorem move_ge (p : Program) (m : Machine) : mGe m.world.drawn (move p m) := by
  unfold move
  split
  · split
    · exact Nat.le_refl _
    · trivial
  · split
    · split
      · exact Nat.le_refl _
      · exact ask2_ge (m := { m with rest := _ }) (Nat.le_refl _) p
    · exact ask2_ge (Nat.le_refl _) p
theorem step_ge (p : Program) (m : Machine) : sGe m.world.drawn (step p m) := by
  unfold step stepT
  have h := move_ge p m
  split
  · rename_i m1 i e
    rw [e] at h
    have h1 := one_ge p m1 i true
    cases hs : (Go.runT p m1 i true).1 with
    | next m2 =>
      rw [hs] at h1
      exact Nat.le_trans h h1
    | ended o w => trivial
  · rename_i s ops e
    rw [e] at h
    exact h
theorem runN_ge (p : Program) : ∀ (n : Nat) (m m' : Machine), runN p n m = .next m' → m.world.drawn ≤ m'.world.drawn
  | 0, m, m', h => by cases h; exact Nat.le_refl _
  | n + 1, m, m', h => by
    unfold runN at h
    have hs := step_ge p m
    split at h
    · rename_i m1 e
      rw [e] at hs
      exact Nat.le_trans hs (runN_ge p n _ _ h)
    · rename_i e _
      rw [h] at hs
      exact hs
theorem calls_drawn {P : Program} {f : FuncId} {args : Array Value} {w : World} {R : Ending → World → Prop} (h : Calls P f args w R) (hr : ∀ e w', R e w' → ∃ v, e = .returned v) : Calls P f args w fun e w' => R e w' ∧ w.drawn ≤ w'.drawn := by
  intro cs
  obtain ⟨e, w', fr, h1, h2, h3⟩ := h cs
  obtain ⟨v, rfl⟩ := hr e w' h1
  refine ⟨_, w', fr, ⟨h1, ?_⟩, h2, h3⟩
  obtain ⟨n, hn⟩ := (h2 : Steps P _ _)
  exact runN_ge P n _ _ hn
end Go.Proofs.YtoefibkhlhmlfaaGreat
namespace Go.Proofs.YtoefibkhlhmlfaaGreat
open Go.RowKit Go.Sort Go.Shelf
def zSortF16_ren : Go.Shelf.Ren := ⟨fun | 6 => 63 | 15 => 99 | 14 => 98 | 28 => 138 | 29 => 139 | 20 => 130 | 21 => 131 | 22 => 132 | 23 => 133 | 24 => 134 | 25 => 135 | 26 => 136 | 27 => 137 | 46 => 165 | 47 => 166 | 48 => 167 | 49 => 168 | 50 => 169 | 57 => 183 | n => n, fun | 22 => 25 | 24 => 61 | 25 => 100 | 3 => 3 | 39 => 140 | 0 => 0 | 53 => 178 | 55 => 51 | 4 => 4 | 46 => 171 | 45 => 170 | 50 => 175 | 5 => 5 | 9 => 9 | 66 => 203 | 70 => 207 | 76 => 218 | 77 => 219 | n => n, fun | n => n⟩
theorem zSortF16 : Go.Proofs.SlLaysF0.n6 Tryz.prog zSortF16_ren := {
  mixed := by kernel_rfl
  f6 := ⟨Tryz.f63.name, by decide, Tryz.func63.trans (congrArg some (by kernel_rfl))⟩
  f14 := ⟨Tryz.f98.name, by decide, Tryz.func98.trans (congrArg some (by kernel_rfl))⟩
  f15 := Tryz.func99.trans (congrArg some (by kernel_rfl))
  f20 := ⟨Tryz.f130.name, by decide, Tryz.func130.trans (congrArg some (by kernel_rfl))⟩
  f21 := ⟨Tryz.f131.name, by decide, Tryz.func131.trans (congrArg some (by kernel_rfl))⟩
  f22 := ⟨Tryz.f132.name, by decide, Tryz.func132.trans (congrArg some (by kernel_rfl))⟩
  f23 := ⟨Tryz.f133.name, by decide, Tryz.func133.trans (congrArg some (by kernel_rfl))⟩
  f24 := ⟨Tryz.f134.name, by decide, Tryz.func134.trans (congrArg some (by kernel_rfl))⟩
  f25 := ⟨Tryz.f135.name, by decide, Tryz.func135.trans (congrArg some (by kernel_rfl))⟩
  f26 := ⟨Tryz.f136.name, by decide, Tryz.func136.trans (congrArg some (by kernel_rfl))⟩
  f27 := ⟨Tryz.f137.name, by decide, Tryz.func137.trans (congrArg some (by kernel_rfl))⟩
  f28 := Tryz.func138.trans (congrArg some (by kernel_rfl))
  f29 := Tryz.func139.trans (congrArg some (by kernel_rfl))
  f46 := ⟨Tryz.f165.name, by decide, Tryz.func165.trans (congrArg some (by kernel_rfl))⟩
  f47 := Tryz.func166.trans (congrArg some (by kernel_rfl))
  f48 := Tryz.func167.trans (congrArg some (by kernel_rfl))
  f49 := ⟨Tryz.f168.name, by decide, Tryz.func168.trans (congrArg some (by kernel_rfl))⟩
  f50 := ⟨Tryz.f169.name, by decide, Tryz.func169.trans (congrArg some (by kernel_rfl))⟩
  f57 := ⟨Tryz.f183.name, by decide, Tryz.func183.trans (congrArg some (by kernel_rfl))⟩
  t0 := Tryz.underlying0
  a0 := Tryz.isAgg0
  z0 := Tryz.sizeOf0
  v0 := Tryz.zeroValue0
  t3 := Tryz.underlying3
  a3 := Tryz.isAgg3
  z3 := Tryz.sizeOf3
  v3 := Tryz.zeroValue3
  t4 := Tryz.underlying4
  a4 := Tryz.isAgg4
  z4 := Tryz.sizeOf4
  v4 := Tryz.zeroValue4
  t5 := Tryz.underlying5
  a5 := Tryz.isAgg5
  z5 := Tryz.sizeOf5
  v5 := Tryz.zeroValue5
  t9 := Tryz.underlying9
  a9 := Tryz.isAgg9
  z9 := Tryz.sizeOf9
  v9 := Tryz.zeroValue9
  t22 := Tryz.underlying25
  a22 := Tryz.isAgg25
  z22 := Tryz.sizeOf25
  v22 := Tryz.zeroValue25
  t25 := Tryz.underlying100
  a25 := Tryz.isAgg100
  z25 := Tryz.sizeOf100
  v25 := Tryz.zeroValue100
  t39 := Tryz.underlying140
  a39 := Tryz.isAgg140
  z39 := Tryz.sizeOf140
  v39 := Tryz.zeroValue140
  t45 := Tryz.underlying170
  a45 := Tryz.isAgg170
  z45 := Tryz.sizeOf170
  v45 := Tryz.zeroValue170
  t46 := Tryz.underlying171
  a46 := Tryz.isAgg171
  z46 := Tryz.sizeOf171
  v46 := Tryz.zeroValue171
  t50 := Tryz.underlying175
  a50 := Tryz.isAgg175
  z50 := Tryz.sizeOf175
  v50 := Tryz.zeroValue175
  t53 := Tryz.underlying178
  a53 := Tryz.isAgg178
  z53 := Tryz.sizeOf178
  v53 := Tryz.zeroValue178
  t55 := Tryz.underlying51
  a55 := Tryz.isAgg51
  z55 := Tryz.sizeOf51
  v55 := Tryz.zeroValue51
  t66 := Tryz.underlying203
  a66 := Tryz.isAgg203
  z66 := Tryz.sizeOf203
  v66 := Tryz.zeroValue203
  t70 := Tryz.underlying207
  a70 := Tryz.isAgg207
  z70 := Tryz.sizeOf207
  v70 := Tryz.zeroValue207
  t76 := Tryz.underlying218
  a76 := Tryz.isAgg218
  z76 := Tryz.sizeOf218
  v76 := Tryz.zeroValue218
  t77 := Tryz.underlying219
  a77 := Tryz.isAgg219
  z77 := Tryz.sizeOf219
  v77 := Tryz.zeroValue219 }
end Go.Proofs.YtoefibkhlhmlfaaGreat
