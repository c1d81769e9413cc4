/-
  Contracts of the library's sync.Once (one goroutine): Do where it is done already, and where it is not: the function is called, and 'done' is stored.
  Conditions: the lock is free; the function that is handed in leaves the once's own cells as they were.
-/
import Derived.Test.YtkmfcdcimmhmdaaBase
import Derived.Test.YtkmfcdcimmhmdaaChecked
import Derived.Tactics2
import Derived.Defers
import Derived.Laws.Pointers
import Derived.Laws.LoneSync
import Derived.Deep.RegionWith
import Derived.RegionCalls
namespace Go.Proofs.Ytkmfcdcimmhmdaa
open Go.RowKit

theorem raceDisable (w : World) : (callFunc 89 #[]).run Try.prog w = .ok (.value (.tuple #[])) w := run_call_mark0 Try.func89 (by kernel_rfl) (by kernel_rfl) (by kernel_rfl) .disable (by kernel_rfl) w
theorem raceEnable (w : World) : (callFunc 91 #[]).run Try.prog w = .ok (.value (.tuple #[])) w := run_call_mark0 Try.func91 (by kernel_rfl) (by kernel_rfl) (by kernel_rfl) .enable (by kernel_rfl) w
theorem raceAcquire (a : Addr) (w : World) : (callFunc 92 #[.pointer (some a)]).run Try.prog w = .ok (.value (.tuple #[])) w := run_call_marked Try.func92 (by kernel_rfl) (by kernel_rfl) (by kernel_rfl) .acquire (by kernel_rfl) a w
theorem raceRelease (a : Addr) (w : World) : (callFunc 94 #[.pointer (some a)]).run Try.prog w = .ok (.value (.tuple #[])) w := run_call_marked Try.func94 (by kernel_rfl) (by kernel_rfl) (by kernel_rfl) .releaseMerge (by kernel_rfl) a w

/-- The once at ⟨b, o⟩: done (1) or not (0); its lock held (1) or free (0). -/
structure OnceAt (w : World) (b o : Nat) (d l : Int) : Prop where
  done : w.cell? ⟨b, o, none⟩ = some (.int .u32 d)
  lock : w.cell? ⟨b, o + 1, none⟩ = some (.int .i32 l)
  fdone : w.frozen? ⟨b, o, none⟩ = false
  flock : w.frozen? ⟨b, o + 1, none⟩ = false
theorem OnceAt.setDone {w : World} {b o : Nat} {d l : Int} (h : OnceAt w b o d l) (d' : Int) : OnceAt (w.setCell ⟨b, o, none⟩ (.int .u32 d')) b o d' l :=
  ⟨World.cell?_setCell_same _ _ _ h.done, (World.cell?_setCell_other _ ⟨b, o, none⟩ ⟨b, o + 1, none⟩ _ (by simp)).trans h.lock, by simp [h.fdone], by simp [h.flock]⟩
theorem OnceAt.setLock {w : World} {b o : Nat} {d l : Int} (h : OnceAt w b o d l) (l' : Int) : OnceAt (w.setCell ⟨b, o + 1, none⟩ (.int .i32 l')) b o d l' :=
  ⟨(World.cell?_setCell_other _ ⟨b, o + 1, none⟩ ⟨b, o, none⟩ _ (by simp)).trans h.done, World.cell?_setCell_same _ _ _ h.lock, by simp [h.fdone], by simp [h.flock]⟩
theorem OnceAt.drew {w : World} {b o : Nat} {d l : Int} (h : OnceAt w b o d l) : OnceAt w.drew b o d l := ⟨h.done, h.lock, h.fdone, h.flock⟩

set_option maxRecDepth 100000 in
theorem onceStore (a : Addr) (x : Value) (u : FrameMode) (w : World) (hc : w.cell? a = some x) (hz : w.frozen? a = false) :
    CallsD Try.prog 84 #[.pointer (some a), .bool true] u w fun e u' w' => u' = u ∧ (e = .returned (.tuple #[]) ∧ w' = w.drew.setCell a (.int .u32 1)) := by
  have hc' : w.drew.cell? a = some x := by go_simp
  have hz' : w.drew.frozen? a = false := by go_simp
  have hst := run_call_store (P := Try.prog) Try.func87 (by kernel_rfl) (by kernel_rfl) (by kernel_rfl) (by kernel_rfl) (k := .u32) (y := 1) hc' hz'
  go_enter_d Try.func84, Try.ntmps84
  go_wp2
  go_region_calls
  all_goals (go_end0; exact ⟨rfl, rfl⟩)
set_option maxRecDepth 100000 in
theorem onceUnlock (a : Addr) (u : FrameMode) (w : World) (hc : w.cell? a = some (.int .i32 1)) (hz : w.frozen? a = false) :
    CallsD Try.prog 83 #[.pointer (some a)] u w fun e u' w' => u' = u ∧ (e = .returned (.tuple #[]) ∧ w' = w.setCell a (.int .i32 0)) := by
  have hd := raceDisable
  have he := raceEnable
  have hr := raceRelease
  have hadd := run_call_add (P := Try.prog) Try.func95 (by kernel_rfl) (by kernel_rfl) (by kernel_rfl) .i32 (by kernel_rfl) (y := -1) (s := 0) hc hz (by simp [go_sem]; rfl)
  have hcv := run_convert_to_unsafe (P := Try.prog) (src := 135) (dst := 139) Try.underlying135 Try.underlying139 (by kernel_rfl) hc
  go_enter_d Try.func83, Try.ntmps83
  go_wp2
  go_end0
  go_wp2
  go_end0
  exact ⟨rfl, rfl⟩
set_option maxRecDepth 100000 in
theorem onceLock (a : Addr) (w : World) (hc : w.cell? a = some (.int .i32 0)) (hz : w.frozen? a = false) :
    Calls Try.prog 82 #[.pointer (some a)] w fun e w' => e = .returned (.tuple #[]) ∧ w' = w.setCell a (.int .i32 1) := by
  have hd := raceDisable
  have he := raceEnable
  have ha := raceAcquire
  have hcas := run_call_cas_hit (P := Try.prog) Try.func90 (by kernel_rfl) (by kernel_rfl) (by kernel_rfl) .i32 (by kernel_rfl) (y := 1) hc hz
  have hc' : (w.setCell a (.int .i32 1)).cell? a = some (.int .i32 1) := World.cell?_setCell_same w a _ hc
  have hcv := run_convert_to_unsafe (P := Try.prog) (src := 135) (dst := 139) Try.underlying135 Try.underlying139 (by kernel_rfl) hc'
  go_enter Try.func82, Try.ntmps82
  go_wp2
  first | go_end0 | (simp only [Exit.inBlock, Exit.then]; refine bodyPost_ret (results_none rfl _ _ _) rfl ?_) | refine bodyPost_ret (results_none rfl _ _ _) rfl ?_
  go_wp2
  go_end0
  exact ⟨rfl, rfl⟩

set_option maxRecDepth 100000 in
theorem boolLoad {w : World} {a : Addr} {d : Int} (h : w.cell? a = some (.int .u32 d)) :
    Calls Try.prog 77 #[.pointer (some a)] w fun e w' => e = .returned (.bool (d != 0)) ∧ w = w' := by
  have hl := run_call_load (P := Try.prog) Try.func81 (by kernel_rfl) (by kernel_rfl) (by kernel_rfl) .u32 (by kernel_rfl) h
  go_enter Try.func77, Try.ntmps77
  go_wp2
  go_ret
  exact ⟨rfl, rfl⟩
set_option maxRecDepth 100000 in
/-- Do, done already: nothing is called. -/
theorem onceDone {w : World} {b o : Nat} {d l : Int} (h : OnceAt w b o d l) (hd : d ≠ 0) (fv : Value) :
    Calls Try.prog 71 #[.pointer (some ⟨b, o, none⟩), fv] w fun e w' => e = .returned (.tuple #[]) ∧ w = w' := by
  have hnot : ∀ (x : Bool) (w : World), (Op.unary .not (.bool x)).run Try.prog w = .ok (.bool (!x)) w := fun _ _ => rfl
  have hd' : (d != 0) = true := by simp [hd]
  go_enter Try.func71, Try.ntmps71
  go_wp2_with (go_at_call 77; refine (boolLoad h.done).mono ?_; rw [hd']; rintro e w' ⟨rfl, rfl⟩)
  go_end0
  exact ⟨rfl, rfl⟩

set_option maxRecDepth 100000 in
set_option maxHeartbeats 1600000 in
theorem onceSlow {w : World} {b o : Nat} (h : OnceAt w b o 0 0) (f : FuncId) (x : Value) (R : World → Prop) (hin : ∀ (args : Array Value) (w : World), (callFunc f args).run Try.prog w = .ok (.enter f args) w)
    (hf : Calls Try.prog f #[x] (w.setCell ⟨b, o + 1, none⟩ (.int .i32 1)) fun e w' => e = .returned (.tuple #[]) ∧ OnceAt w' b o 0 1 ∧ R w') :
    Calls Try.prog 78 #[.pointer (some ⟨b, o, none⟩), .func (.func f) #[x] #[]] w fun e w' => e = .returned (.tuple #[]) ∧
      ∃ w2, OnceAt w2 b o 0 1 ∧ R w2 ∧ w' = (w2.drew.setCell ⟨b, o, none⟩ (.int .u32 1)).setCell ⟨b, o + 1, none⟩ (.int .i32 0) := by
  have h1 := h.setLock 1
  have hnot : ∀ (x : Bool) (w : World), (Op.unary .not (.bool x)).run Try.prog w = .ok (.bool (!x)) w := fun _ _ => rfl
  have hd' : ((0 : Int) != 0) = false := rfl
  go_enter_defers Try.func78, Try.ntmps78
  go_wp2_with (go_at_call 82; refine (onceLock ⟨b, o + 1, none⟩ _ h.lock h.flock).mono ?_; rintro e w' ⟨rfl, rfl⟩)
  refine (boolLoad h1.done).mono ?_
  rw [hd']
  rintro e w' ⟨rfl, rfl⟩
  go_wp2_with fail
  refine hf.mono ?_
  rintro e w2 ⟨rfl, h2, hR⟩
  go_wp2_with fail
  refine leaves_cons (f := 84) (args := #[.pointer (some ⟨b, o, none⟩), .bool true]) (by simp) (by simp [go_sem]) ?_
  refine (onceStore ⟨b, o, none⟩ (.int .u32 0) .returning _ h2.done h2.fdone).mono ?_
  rintro e u' w'' ⟨rfl, rfl, rfl⟩
  have h3 := h2.drew.setDone 1
  refine leaves_cons (f := 83) (args := #[.pointer (some ⟨b, o + 1, none⟩)]) (by simp [settle]) (by simp [go_sem]) ?_
  refine (onceUnlock ⟨b, o + 1, none⟩ _ _ h3.lock h3.flock).mono ?_
  rintro e u' w'' ⟨rfl, rfl, rfl⟩
  simp [Leaves, settle, results, Try.results78]
  exact ⟨w2, h2, hR, rfl⟩
set_option maxRecDepth 100000 in
/-- Do, not yet done: the function is called; then it is done, and the lock is free. -/
theorem onceDo {w : World} {b o : Nat} (h : OnceAt w b o 0 0) (f : FuncId) (x : Value) (R : World → Prop) (hin : ∀ (args : Array Value) (w : World), (callFunc f args).run Try.prog w = .ok (.enter f args) w)
    (hf : Calls Try.prog f #[x] (w.setCell ⟨b, o + 1, none⟩ (.int .i32 1)) fun e w' => e = .returned (.tuple #[]) ∧ OnceAt w' b o 0 1 ∧ R w') :
    Calls Try.prog 71 #[.pointer (some ⟨b, o, none⟩), .func (.func f) #[x] #[]] w fun e w' => e = .returned (.tuple #[]) ∧
      ∃ w2, OnceAt w2 b o 0 1 ∧ R w2 ∧ w' = (w2.drew.setCell ⟨b, o, none⟩ (.int .u32 1)).setCell ⟨b, o + 1, none⟩ (.int .i32 0) := by
  have hnot : ∀ (x : Bool) (w : World), (Op.unary .not (.bool x)).run Try.prog w = .ok (.bool (!x)) w := fun _ _ => rfl
  have hd' : ((0 : Int) != 0) = false := rfl
  go_enter Try.func71, Try.ntmps71
  go_wp2_with (first | (go_at_call 77; refine (boolLoad h.done).mono ?_; rw [hd']; rintro e w' ⟨rfl, rfl⟩) | (go_at_call 78; refine (onceSlow h f x R hin hf).mono ?_; rintro e w3 ⟨rfl, h3⟩))
  go_end0
  exact ⟨rfl, h3⟩
end Go.Proofs.Ytkmfcdcimmhmdaa
