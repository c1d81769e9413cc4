/-
  What this seat's claims lean on of the texts Mono.
  Conditions: as each theorem states.
-/
import Derived.RunT
import Derived.Calls
import Derived.WalkKit
namespace Go.Proofs.YtoefibkhlhmlfaaGreat
open Go.RowKit
theorem ask_ge {α : Type} : ∀ (a : Ask α) (w : World), w.drawn ≤ (w.ask a).2.drawn
  | .done _, w => Nat.le_refl _
  | .ask what range k, w => by
    unfold World.ask
    dsimp only
    split
    · exact ask_ge _ w
    · exact Nat.le_trans (Nat.le_succ _) (ask_ge _ { w with drawn := w.drawn + 1 })
theorem sys_ge (w : World) (c : Sys) : w.drawn ≤ (w.sys c).2.drawn := by
  have h := ask_ge (Kernel.perform c w.os) w
  unfold World.sys
  split
  · exact Nat.le_refl _
  · rename_i e
    rw [e] at h
    exact h
theorem viewStore_ge {p : Program} {w : World} {at_ : Addr} {u : TypeId} {k : Addr} {v : Value} {b : Bool} {w' : World} {l : List Addr} (h : w.viewStore p at_ u k v b = .ok (w', l)) : w.drawn ≤ w'.drawn := by
  unfold World.viewStore at h
  simp only [bind, Except.bind, pure, Except.pure] at h
  repeat' split at h
  all_goals first
    | contradiction
    | (cases h; exact Nat.le_refl _)
theorem farStore_ge {p : Program} {w : World} {a : Addr} {v : Value} {b : Bool} {w' : World} {l : List Addr} (h : w.farStore p a v b = .ok (w', l)) : w.drawn ≤ w'.drawn := by
  unfold World.farStore at h
  split at h
  · split at h
    · rename_i e
      cases h
      exact viewStore_ge e
    · cases h
  · cases h
theorem freeze_ge (w : World) (a : Addr) (n : Nat) : w.drawn ≤ (w.freeze a n).drawn := by
  unfold World.freeze
  split <;> exact Nat.le_refl _
def rGe {α : Type} (d : Nat) : Result α → Prop
  | .ok _ w => d ≤ w.drawn
  | .halt _ w => d ≤ w.drawn
theorem rGe.le {α : Type} {d d' : Nat} (h : d ≤ d') : ∀ {r : Result α}, rGe d' r → rGe d r
  | .ok _ _, k => Nat.le_trans h k
  | .halt _ _, k => Nat.le_trans h k
theorem run_ge {α : Type} (p : Program) (s : Sem α) (w : World) : rGe w.drawn (s.run p w) := by
  fun_induction Sem.run p s w with
  | _ => first
    | exact Nat.le_refl _
    | assumption
    | (rename_i ih; exact ih.le (farStore_ge (by assumption)))
    | (rename_i ih; exact ih.le (freeze_ge _ _ _))
    | (rename_i ih; exact ih.le (sys_ge _ _))
    | (rename_i ih; exact ih.le (Nat.le_succ _))
    | (rename_i ih; exact ih)
theorem runT_ge {α : Type} (p : Program) (s : Sem α) (w : World) (es : Array Event) : rGe w.drawn (s.runT p w es).1 := by
  rw [Sem.runT_fst]
  exact run_ge p s w
theorem run_ok {α : Type} {p : Program} {s : Sem α} {w : World} {a : α} {w' : World} (h : s.run p w = .ok a w') : w.drawn ≤ w'.drawn := by
  have := run_ge p s w
  rw [h] at this
  exact this
theorem run_halt {α : Type} {p : Program} {s : Sem α} {w : World} {a : Halt} {w' : World} (h : s.run p w = .halt a w') : w.drawn ≤ w'.drawn := by
  have := run_ge p s w
  rw [h] at this
  exact this
theorem runT_ok {α : Type} {p : Program} {s : Sem α} {w : World} {es es' : Array Event} {a : α} {w' : World} (h : s.runT p w es = (.ok a w', es')) : w.drawn ≤ w'.drawn := by
  have := runT_ge p s w es
  rw [h] at this
  exact this
theorem runT_halt {α : Type} {p : Program} {s : Sem α} {w : World} {es es' : Array Event} {a : Halt} {w' : World} (h : s.runT p w es = (.halt a w', es')) : w.drawn ≤ w'.drawn := by
  have := runT_ge p s w es
  rw [h] at this
  exact this
theorem runT_ok1 {α : Type} {p : Program} {s : Sem α} {w : World} {es : Array Event} {a : α} {w' : World} (h : (s.runT p w es).1 = .ok a w') : w.drawn ≤ w'.drawn := by
  have := runT_ge p s w es
  rw [h] at this
  exact this
theorem runT_halt1 {α : Type} {p : Program} {s : Sem α} {w : World} {es : Array Event} {a : Halt} {w' : World} (h : (s.runT p w es).1 = .halt a w') : w.drawn ≤ w'.drawn := by
  have := runT_ge p s w es
  rw [h] at this
  exact this
def gGe (d : Nat) : GStep → Prop
  | .go _ w _ => d ≤ w.drawn
  | .comm _ _ _ _ w _ => d ≤ w.drawn
  | .spawn _ _ w _ => d ≤ w.drawn
  | .count _ w _ => d ≤ w.drawn
  | .timer _ _ w _ => d ≤ w.drawn
  | .alone _ _ w _ => d ≤ w.drawn
  | .newcoro _ _ _ w _ => d ≤ w.drawn
  | .coroswitch _ _ _ w _ => d ≤ w.drawn
  | .collect _ w _ => d ≤ w.drawn
  | .watch _ w _ => d ≤ w.drawn
  | .ended _ _ _ => True
theorem gGe.after {d : Nat} (es : Array Event) : ∀ {g : GStep}, gGe d g → gGe d (GStep.after es g)
  | .go .., h => h
  | .comm .., h => h
  | .spawn .., h => h
  | .count .., h => h
  | .timer .., h => h
  | .alone .., h => h
  | .newcoro .., h => h
  | .coroswitch .., h => h
  | .collect .., h => h
  | .watch .., h => h
  | .ended .., _ => trivial
theorem dieOf_ge {d : Nat} {w : World} (h : d ≤ w.drawn) (fr : Frame) (l : List ByteArray) (m : String) (b : Bool) : gGe d (dieOf fr l m b w) := h
theorem endThrow_ge {d : Nat} {w : World} (h : d ≤ w.drawn) (fr : Frame) (m : String) : gGe d (endThrow fr m w) := h
theorem endPrinting_ge {d : Nat} {w : World} (h : d ≤ w.drawn) (p : Program) (fr : Frame) (v : Value) : gGe d (endPrinting p fr v w) := by
  unfold endPrinting
  dsimp only
  split
  · exact endThrow_ge h _ _
  · trivial
theorem endFatal_ge {d : Nat} {w : World} (h : d ≤ w.drawn) (p : Program) (fr : Frame) (cs : List Frame) (dy : Option Dying) (m : String) : gGe d (endFatal p fr cs dy m w) := by
  unfold endFatal
  dsimp only
  split
  · rename_i e
    exact dieOf_ge (Nat.le_trans h (run_ok e)) _ _ _ _
  · trivial
  · trivial
theorem endWith_ge {d : Nat} (w : World) (fd : Nat) (t : ByteArray) (o : Outcome) : gGe d (endWith w fd t o) := by
  unfold endWith
  dsimp only
  split
  · split <;> trivial
  · trivial
  · trivial
theorem writeOn_ge {d : Nat} {w : World} (h : d ≤ w.drawn) (p : Program) (fr : Frame) (dy : Dying) (f : Fatal) : gGe d (writeOn p fr dy f w) := by
  unfold writeOn
  dsimp only
  split
  · trivial
  · rename_i piece rest _
    split
    · rename_i e
      exact Nat.le_trans h (runT_ok e)
    · rename_i e
      exact Nat.le_trans h (runT_halt e)
    · trivial
    · trivial
theorem die_ge {d : Nat} {w : World} (h : d ≤ w.drawn) (p : Program) (fr : Frame) (dy : Dying) : gGe d (die p fr dy w) := by
  unfold die
  split
  · exact writeOn_ge h _ _ _ _
  · split
    · split
      · exact h
      · exact endWith_ge _ _ _ _
    · dsimp only
      split
      · exact h
      · split
        · rename_i e
          exact Nat.le_trans h (run_ok e)
        · trivial
      · refine gGe.after _ ?_
        rename_i t recv name _
        have hg := (runT_ge p (invoke (.fn (.method name) #[]) #[.iface t recv]) w #[]).le h
        split
        · rename_i e
          rw [e] at hg
          exact hg
        · rename_i e
          rw [e] at hg
          exact hg
        · trivial
        · rename_i e
          rw [e] at hg
          exact endPrinting_ge hg _ _ _
        · trivial
      · trivial
theorem doReturn_ge {d : Nat} {w : World} (h : d ≤ w.drawn) (p : Program) (main : Bool) (fr : Frame) (cs : List Frame) (dy : Option Dying) (v : Value) : gGe d (doReturn p main fr cs dy v w) := by
  unfold doReturn
  split
  · split
    · exact h
    · exact h
    · exact h
    · exact h
  · split
    · exact h
    · trivial
    · split
      · exact h
      · split
        · exact h
        · trivial
theorem gIte {c : Prop} [Decidable c] {d : Nat} {a b : GStep} (ha : c → gGe d a) (hb : ¬ c → gGe d b) : gGe d (if c then a else b) := by
  split
  · exact ha (by assumption)
  · exact hb (by assumption)
theorem callDeferred_ge {d : Nat} {w : World} (h : d ≤ w.drawn) (p : Program) (fr : Frame) (cs : List Frame) (dy : Option Dying) (q : Deferred) : gGe d (callDeferred p fr cs dy q w) := by
  unfold callDeferred
  refine gIte (fun _ => trivial) (fun _ => ?_)
  dsimp only
  refine gGe.after _ ?_
  have hg := (runT_ge p (invoke q.target q.args) w #[]).le h
  generalize (Sem.runT p (invoke q.target q.args) w #[]).1 = r at *
  cases r with
  | ok a w1 =>
    have hg : d ≤ w1.drawn := hg
    cases a with
    | alone on v => cases on <;> first | exact hg | trivial
    | coroswitch c x => cases x <;> first | exact hg | trivial
    | recover => (dsimp only; split <;> exact hg)
    | _ => first | exact hg | trivial
  | halt a w1 =>
    have hg : d ≤ w1.drawn := hg
    cases a <;> first
      | exact hg
      | trivial
      | exact endFatal_ge hg _ _ _ _ _
      | exact endThrow_ge hg _ _
theorem unwind_ge {d : Nat} {w : World} (h : d ≤ w.drawn) (p : Program) (main : Bool) (fr : Frame) (cs : List Frame) (dy : Option Dying) : gGe d (unwind p main fr cs dy w) := by
  unfold unwind
  split
  · dsimp only
    refine gGe.after _ ?_
    split
    · rename_i e
      exact Nat.le_trans h (runT_ok1 e)
    · trivial
  · exact callDeferred_ge h _ _ _ _ _
  · split
    · trivial
    · split
      · trivial
      · split
        · exact h
        · split
          · split
            · exact h
            · split
              · rename_i e
                exact Nat.le_trans h (run_ok e)
              · trivial
              · trivial
          · split
            · exact endPrinting_ge h _ _ _
            · trivial
    · split
      · exact doReturn_ge h _ _ _ _ _ _
      · dsimp only
        refine gGe.after _ ?_
        split
        · rename_i e
          exact doReturn_ge (Nat.le_trans h (runT_ok1 e)) _ _ _ _ _ _
        · trivial
        · trivial
theorem early_ge {d : Nat} {w : World} (h : d ≤ w.drawn) (p : Program) (fr : Frame) (cs : List Frame) (dy : Option Dying) (g : Nat) : gGe d (early p fr cs dy g w) := by
  have hn : ∀ w' : World, d ≤ w'.drawn → gGe d (match w'.heap[g]? with | some (.pending c elem) => GStep.go { frame := fr, callers := cs, status := .running, dying := dy } { w' with heap := w'.heap.setIfInBounds g (.cells c elem) } | _ => .ended (.stuck "early: the variable does not wait" (fr.pos p)) w') := by
    intro w' h'
    split
    · exact h'
    · trivial
  unfold early
  dsimp only
  split
  · exact hn _ h
  · split
    · trivial
    · split
      · exact hn _ h
      · split
        · exact hn _ h
        · split
          · trivial
          · exact h
          · trivial
          · exact hn _ h
          · split
            · exact h
            · split
              · exact hn _ h
              · split
                · rename_i e
                  exact hn _ (Nat.le_trans h (run_ok e))
                · rename_i e
                  exact Nat.le_trans h (run_ok e)
                · trivial
end Go.Proofs.YtoefibkhlhmlfaaGreat
