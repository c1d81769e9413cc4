/-
  How an argument of type 'api.Frame' reads: its version, its kind and its payload.
  Conditions: the argument can be read as data.
-/
import Derived.Test.YtmgfalkelembkaaOpen
import Derived.Test.YtmgfalkelembkaaL7a
namespace Go.Proofs.Ytmgfalkelembkaa
open Go.RowKit Go.WideShapes Go.ChangeShapes

theorem u8_nat {n : Int} (h : (Lit.int .u8 n).wf = true) : ∃ c : UInt8, n = (c.toNat : Int) := by
  have hb := bounds_u8 h
  refine ⟨UInt8.ofNat n.toNat, ?_⟩
  have : (UInt8.ofNat n.toNat).toNat = n.toNat := by rw [UInt8.toNat_ofNat']; omega
  rw [this]
  omega
set_option maxRecDepth 100000 in
theorem rd_frame {H : Type} {enc : TypeId × Value → H} {w : World} {cs : List Value} (h : Rd enc w 46 cs) :
    ∃ (v k : UInt8) (p : ByteArray), cs = [.int .u8 (v.toNat : Int), .int .u8 (k.toNat : Int), .string p] ∧ p.size ≤ maxLen := by
  obtain ⟨hl, hf⟩ := rd_struct Try.underlying46 h
  have hl3 : cs.length = 3 := hl.trans (by kernel_rfl)
  match cs, hl3 with
  | [v0, v1, v2], _ =>
    have g0 := hf 0 _ rfl
    have g1 := hf 1 _ rfl
    have g2 := hf 2 _ rfl
    have c5 : Try.prog.cellsOf 5 = 1 := by kernel_rfl
    have cs' : Try.prog.cellsOf 9 = 1 := by kernel_rfl
    simp [c5, cs'] at g0 g1 g2
    obtain ⟨n0, e0, w0⟩ := rd_int Try.underlying5 g0
    obtain ⟨n1, e1, w1⟩ := rd_int Try.underlying5 g1
    obtain ⟨s, e2, hs⟩ := rd_string Try.underlying9 g2
    obtain ⟨v, rfl⟩ := u8_nat w0
    obtain ⟨k, rfl⟩ := u8_nat w1
    simp at e0 e1 e2
    subst e0 e1 e2
    exact ⟨v, k, s, rfl, hs⟩
set_option maxRecDepth 100000 in
theorem open_frame {H : Type} {enc : TypeId × Value → H} {W : World} {base : Nat} {v : Value} {d : DataW H} {p : List MemPlace}
    (hv : Value.okWide Try.prog W .any base 46 v) (h : DataW.Trod enc Try.prog W 0 (fun _ => true) true 46 v d p) :
    ∃ (c k : UInt8) (t : ByteArray), v = fr (c.toNat : Int) (k.toNat : Int) t ∧ t.size ≤ maxLen := by
  unfold Value.okWide at hv
  rw [Try.underlying46] at hv
  obtain ⟨cs, rfl, _, _⟩ := hv
  obtain ⟨c, k, t, h1, h2⟩ := rd_frame (rd_of_trod h)
  have h3 : cs.toList = [.int .u8 (c.toNat : Int), .int .u8 (k.toNat : Int), .string t] := h1
  refine ⟨c, k, t, ?_, h2⟩
  unfold fr
  rw [← h3]
end Go.Proofs.Ytmgfalkelembkaa
