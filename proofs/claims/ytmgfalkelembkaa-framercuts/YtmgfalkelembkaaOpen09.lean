/-
  How an argument of type '[]uint16' reads: its numbers in memory, one by one.
  Conditions: the argument can be read as data.
-/
import Derived.Test.YtmgfalkelembkaaOpen
namespace Go.Proofs.Ytmgfalkelembkaa
open Go.RowKit Go.WideShapes Go.ChangeShapes

/-- The slice ao holds the numbers l in w. -/
def U16sAt (w : World) (ao : Option Addr) (l : List Nat) : Prop := ∀ k (hk : k < l.length), ∃ b off, ao = some ⟨b, off, none⟩ ∧ b < w.heap.size ∧ w.cell? ⟨b, off + k, none⟩ = some (.int .u16 (l[k] : Int))
theorem bounds_u16 {n : Int} (h : (Lit.int .u16 n).wf = true) : 0 ≤ n ∧ n ≤ 65535 := by
  simp [Lit.wf, IntKind.min, IntKind.max, IntKind.signed, IntKind.bits] at h
  omega
set_option maxRecDepth 100000 in
theorem rd_u16s {H : Type} {enc : TypeId × Value → H} {w : World} {t : TypeId} {cs : List Value} {e : TypeId} (ht : Try.prog.underlying t = some (.slice e)) (he : Try.prog.underlying e = some (.int .u16)) (hsz : Try.prog.cellsOf e = 1) (h : Rd enc w t cs) :
    ∃ (ao : Option Addr) (cap : Nat) (l : List Nat), cs = [.slice ao l.length cap] ∧ l.length ≤ maxLen ∧ (∀ n ∈ l, n < 65536) ∧ U16sAt w ao l := by
  obtain ⟨ao, cap, es, h1, h2, h3, h4⟩ := rd_slice ht hsz (by decide) h
  obtain ⟨l, l1, l3, l2⟩ := ones_of (f := fun n : Nat => Value.int .u16 (n : Int)) h3 (fun x hx => by
    obtain ⟨n, hn, hwf⟩ := rd_int he (h4 x hx)
    have hb := bounds_u16 hwf
    refine ⟨n.toNat, ?_⟩
    rw [hn]
    congr 2
    omega)
  refine ⟨ao, cap, l, by rw [h1, l1], by omega, fun n hn => ?_, l2⟩
  obtain ⟨n', hn', hwf⟩ := rd_int he (h4 _ (l3 n hn))
  have hb := bounds_u16 hwf
  simp at hn'
  omega
set_option maxRecDepth 100000 in
theorem open_u16s {H : Type} {enc : TypeId × Value → H} {W : World} {base : Nat} {v : Value} {d : DataW H} {p : List MemPlace}
    (hv : Value.okWide Try.prog W .any base 36 v) (h : DataW.Trod enc Try.prog W 0 (fun _ => true) true 36 v d p) :
    ∃ (ao : Option Addr) (cap : Nat) (l : List Nat), v = .slice ao l.length cap ∧ l.length ≤ maxLen ∧ (∀ n ∈ l, n < 65536) ∧ U16sAt W ao l := by
  obtain ⟨ao', len', cap', rfl⟩ := okWide_slice Try.underlying36 hv
  obtain ⟨ao, cap, l, h1, h2, h3, h4⟩ := rd_u16s Try.underlying36 Try.underlying40 (by kernel_rfl) (rd_of_trod h)
  exact ⟨ao, cap, l, by simpa [Value.cells] using h1, h2, h3, h4⟩
end Go.Proofs.Ytmgfalkelembkaa
