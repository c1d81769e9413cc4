/-
  Contracts of the library's sync.Once (one goroutine): Do where it is done already, and where it is not: the function is called, and 'done' is stored.
  Conditions: the lock is free; the function that is handed in leaves the once's own cells as they were.
-/
import Derived.Test.YtaleennijfefnaaGreatBase
import Derived.Test.YtaleennijfefnaaGreatChecked
import Derived.Tactics2
import Derived.Defers
import Derived.Laws.Pointers
import Derived.Laws.LoneSync
import Derived.Deep.RegionWith
import Derived.RegionCalls
namespace Go.Proofs.YtaleennijfefnaaGreat
open Go.RowKit

theorem raceDisable (w : World) : (callFunc 104 #[]).run Tryz.prog w = .ok (.value (.tuple #[])) w := run_call_mark0 Tryz.func104 (by kernel_rfl) (by kernel_rfl) (by kernel_rfl) .disable (by kernel_rfl) w
theorem raceEnable (w : World) : (callFunc 106 #[]).run Tryz.prog w = .ok (.value (.tuple #[])) w := run_call_mark0 Tryz.func106 (by kernel_rfl) (by kernel_rfl) (by kernel_rfl) .enable (by kernel_rfl) w
theorem raceAcquire (a : Addr) (w : World) : (callFunc 107 #[.pointer (some a)]).run Tryz.prog w = .ok (.value (.tuple #[])) w := run_call_marked Tryz.func107 (by kernel_rfl) (by kernel_rfl) (by kernel_rfl) .acquire (by kernel_rfl) a w
theorem raceRelease (a : Addr) (w : World) : (callFunc 109 #[.pointer (some a)]).run Tryz.prog w = .ok (.value (.tuple #[])) w := run_call_marked Tryz.func109 (by kernel_rfl) (by kernel_rfl) (by kernel_rfl) .releaseMerge (by kernel_rfl) a w

/-- The once at ⟨b, o⟩: done (1) or not (0); its lock held (1) or free (0). -/
structure OnceAt (w : World) (b o : Nat) (d l : Int) : Prop where
  done : w.cell? ⟨b, o, none⟩ = some (.int .u32 d)
  lock : w.cell? ⟨b, o + 1, none⟩ = some (.int .i32 l)
  fdone : w.frozen? ⟨b, o, none⟩ = false
  flock : w.frozen? ⟨b, o + 1, none⟩ = false
theorem OnceAt.setDone {w : World} {b o : Nat} {d l : Int} (h : OnceAt w b o d l) (d' : Int) : OnceAt (w.setCell ⟨b, o, none⟩ (.int .u32 d')) b o d' l :=
  ⟨World.cell?_setCell_same _ _ _ h.done, (World.cell?_setCell_other _ ⟨b, o, none⟩ ⟨b, o + 1, none⟩ _ (by simp)).trans h.lock, by simp [h.fdone], by simp [h.flock]⟩
theorem OnceAt.setLock {w : World} {b o : Nat} {d l : Int} (h : OnceAt w b o d l) (l' : Int) : OnceAt (w.setCell ⟨b, o + 1, none⟩ (.int .i32 l')) b o d l' :=
  ⟨(World.cell?_setCell_other _ ⟨b, o + 1, none⟩ ⟨b, o, none⟩ _ (by simp)).trans h.done, World.cell?_setCell_same _ _ _ h.lock, by simp [h.fdone], by simp [h.flock]⟩
theorem OnceAt.drew {w : World} {b o : Nat} {d l : Int} (h : OnceAt w b o d l) : OnceAt w.drew b o d l := ⟨h.done, h.lock, h.fdone, h.flock⟩

set_option maxRecDepth 100000 in
theorem onceStore (a : Addr) (x : Value) (u : FrameMode) (w : World) (hc : w.cell? a = some x) (hz : w.frozen? a = false) :
    CallsD Tryz.prog 99 #[.pointer (some a), .bool true] u w fun e u' w' => u' = u ∧ (e = .returned (.tuple #[]) ∧ w' = w.drew.setCell a (.int .u32 1)) := by
  have hc' : w.drew.cell? a = some x := by go_simp
  have hz' : w.drew.frozen? a = false := by go_simp
  have hst := run_call_store (P := Tryz.prog) Tryz.func102 (by kernel_rfl) (by kernel_rfl) (by kernel_rfl) (by kernel_rfl) (k := .u32) (y := 1) hc' hz'
  go_enter_d Tryz.func99, Tryz.ntmps99
  go_wp2
  go_region_calls
  all_goals (go_end0; exact ⟨rfl, rfl⟩)
set_option maxRecDepth 100000 in
theorem onceUnlock (a : Addr) (u : FrameMode) (w : World) (hc : w.cell? a = some (.int .i32 1)) (hz : w.frozen? a = false) :
    CallsD Tryz.prog 98 #[.pointer (some a)] u w fun e u' w' => u' = u ∧ (e = .returned (.tuple #[]) ∧ w' = w.setCell a (.int .i32 0)) := by
  have hd := raceDisable
  have he := raceEnable
  have hr := raceRelease
  have hadd := run_call_add (P := Tryz.prog) Tryz.func110 (by kernel_rfl) (by kernel_rfl) (by kernel_rfl) .i32 (by kernel_rfl) (y := -1) (s := 0) hc hz (by simp [go_sem]; rfl)
  have hcv := run_convert_to_unsafe (P := Tryz.prog) (src := 162) (dst := 132) Tryz.underlying162 Tryz.underlying132 (by kernel_rfl) hc
  go_enter_d Tryz.func98, Tryz.ntmps98
  go_wp2
  go_end0
  go_wp2
  go_end0
  exact ⟨rfl, rfl⟩
set_option maxRecDepth 100000 in
theorem onceLock (a : Addr) (w : World) (hc : w.cell? a = some (.int .i32 0)) (hz : w.frozen? a = false) :
    Calls Tryz.prog 97 #[.pointer (some a)] w fun e w' => e = .returned (.tuple #[]) ∧ w' = w.setCell a (.int .i32 1) := by
  have hd := raceDisable
  have he := raceEnable
  have ha := raceAcquire
  have hcas := run_call_cas_hit (P := Tryz.prog) Tryz.func105 (by kernel_rfl) (by kernel_rfl) (by kernel_rfl) .i32 (by kernel_rfl) (y := 1) hc hz
  have hc' : (w.setCell a (.int .i32 1)).cell? a = some (.int .i32 1) := World.cell?_setCell_same w a _ hc
  have hcv := run_convert_to_unsafe (P := Tryz.prog) (src := 162) (dst := 132) Tryz.underlying162 Tryz.underlying132 (by kernel_rfl) hc'
  go_enter Tryz.func97, Tryz.ntmps97
  go_wp2
  first | go_end0 | (simp only [Exit.inBlock, Exit.then]; refine bodyPost_ret (results_none rfl _ _ _) rfl ?_) | refine bodyPost_ret (results_none rfl _ _ _) rfl ?_
  go_wp2
  go_end0
  exact ⟨rfl, rfl⟩

set_option maxRecDepth 100000 in
theorem boolLoad {w : World} {a : Addr} {d : Int} (h : w.cell? a = some (.int .u32 d)) :
    Calls Tryz.prog 92 #[.pointer (some a)] w fun e w' => e = .returned (.bool (d != 0)) ∧ w = w' := by
  have hl := run_call_load (P := Tryz.prog) Tryz.func96 (by kernel_rfl) (by kernel_rfl) (by kernel_rfl) .u32 (by kernel_rfl) h
  go_enter Tryz.func92, Tryz.ntmps92
  go_wp2
  go_ret
  exact ⟨rfl, rfl⟩
set_option maxRecDepth 100000 in
/-- Do, done already: nothing is called. -/
theorem onceDone {w : World} {b o : Nat} {d l : Int} (h : OnceAt w b o d l) (hd : d ≠ 0) (fv : Value) :
    Calls Tryz.prog 85 #[.pointer (some ⟨b, o, none⟩), fv] w fun e w' => e = .returned (.tuple #[]) ∧ w = w' := by
  have hnot : ∀ (x : Bool) (w : World), (Op.unary .not (.bool x)).run Tryz.prog w = .ok (.bool (!x)) w := fun _ _ => rfl
  have hd' : (d != 0) = true := by simp [hd]
  go_enter Tryz.func85, Tryz.ntmps85
  go_wp2_with (go_at_call 92; refine (boolLoad h.done).mono ?_; rw [hd']; rintro e w' ⟨rfl, rfl⟩)
  go_end0
  exact ⟨rfl, rfl⟩

set_option maxRecDepth 100000 in
set_option maxHeartbeats 1600000 in
theorem onceSlow {w : World} {b o : Nat} (h : OnceAt w b o 0 0) (f : FuncId) (x : Value) (R : World → Prop) (hin : ∀ (args : Array Value) (w : World), (callFunc f args).run Tryz.prog w = .ok (.enter f args) w)
    (hf : Calls Tryz.prog f #[x] (w.setCell ⟨b, o + 1, none⟩ (.int .i32 1)) fun e w' => e = .returned (.tuple #[]) ∧ OnceAt w' b o 0 1 ∧ R w') :
    Calls Tryz.prog 93 #[.pointer (some ⟨b, o, none⟩), .func (.func f) #[x] #[]] w fun e w' => e = .returned (.tuple #[]) ∧
      ∃ w2, OnceAt w2 b o 0 1 ∧ R w2 ∧ w' = (w2.drew.setCell ⟨b, o, none⟩ (.int .u32 1)).setCell ⟨b, o + 1, none⟩ (.int .i32 0) := by
  have h1 := h.setLock 1
  have hnot : ∀ (x : Bool) (w : World), (Op.unary .not (.bool x)).run Tryz.prog w = .ok (.bool (!x)) w := fun _ _ => rfl
  have hd' : ((0 : Int) != 0) = false := rfl
  go_enter_defers Tryz.func93, Tryz.ntmps93
  go_wp2_with (go_at_call 97; refine (onceLock ⟨b, o + 1, none⟩ _ h.lock h.flock).mono ?_; rintro e w' ⟨rfl, rfl⟩)
  refine (boolLoad h1.done).mono ?_
  rw [hd']
  rintro e w' ⟨rfl, rfl⟩
  go_wp2_with fail
  refine hf.mono ?_
  rintro e w2 ⟨rfl, h2, hR⟩
  go_wp2_with fail
  refine leaves_cons (f := 99) (args := #[.pointer (some ⟨b, o, none⟩), .bool true]) (by simp) (by simp [go_sem]) ?_
  refine (onceStore ⟨b, o, none⟩ (.int .u32 0) .returning _ h2.done h2.fdone).mono ?_
  rintro e u' w'' ⟨rfl, rfl, rfl⟩
  have h3 := h2.drew.setDone 1
  refine leaves_cons (f := 98) (args := #[.pointer (some ⟨b, o + 1, none⟩)]) (by simp [settle]) (by simp [go_sem]) ?_
  refine (onceUnlock ⟨b, o + 1, none⟩ _ _ h3.lock h3.flock).mono ?_
  rintro e u' w'' ⟨rfl, rfl, rfl⟩
  simp [Leaves, settle, results, Tryz.results93]
  exact ⟨w2, h2, hR, rfl⟩
set_option maxRecDepth 100000 in
/-- Do, not yet done: the function is called; then it is done, and the lock is free. -/
theorem onceDo {w : World} {b o : Nat} (h : OnceAt w b o 0 0) (f : FuncId) (x : Value) (R : World → Prop) (hin : ∀ (args : Array Value) (w : World), (callFunc f args).run Tryz.prog w = .ok (.enter f args) w)
    (hf : Calls Tryz.prog f #[x] (w.setCell ⟨b, o + 1, none⟩ (.int .i32 1)) fun e w' => e = .returned (.tuple #[]) ∧ OnceAt w' b o 0 1 ∧ R w') :
    Calls Tryz.prog 85 #[.pointer (some ⟨b, o, none⟩), .func (.func f) #[x] #[]] w fun e w' => e = .returned (.tuple #[]) ∧
      ∃ w2, OnceAt w2 b o 0 1 ∧ R w2 ∧ w' = (w2.drew.setCell ⟨b, o, none⟩ (.int .u32 1)).setCell ⟨b, o + 1, none⟩ (.int .i32 0) := by
  have hnot : ∀ (x : Bool) (w : World), (Op.unary .not (.bool x)).run Tryz.prog w = .ok (.bool (!x)) w := fun _ _ => rfl
  have hd' : ((0 : Int) != 0) = false := rfl
  go_enter Tryz.func85, Tryz.ntmps85
  go_wp2_with (first | (go_at_call 92; refine (boolLoad h.done).mono ?_; rw [hd']; rintro e w' ⟨rfl, rfl⟩) | (go_at_call 93; refine (onceSlow h f x R hin hf).mono ?_; rintro e w3 ⟨rfl, h3⟩))
  go_end0
  exact ⟨rfl, h3⟩
end Go.Proofs.YtaleennijfefnaaGreat
