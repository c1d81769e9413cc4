/-
  What this seat's claims lean on of the texts Fill.
  Conditions: as each theorem states.
-/
import Derived.WalkKit
import Derived.ProofKit
import Derived.Below
import Derived.Deep.Draws
import Derived.Deep.RegionHeld
import Derived.Test.YtfpahdnhnhkcdaaChecked
import Derived.OpenShut
import Derived.ShutString
import Derived.WalkSpells
import Derived.WalkLawsBesides
import Derived.Deep.QuietTactic
import Derived.BigQuiet
import Derived.Lib.ConvBytes
import Derived.Deep.OwnRows
import Derived.Test.YtfpahdnhnhkcdaaZ1
namespace Go.Proofs.Ytfpahdnhnhkcdaa
open Go.RowKit
def gRow (c : UInt8) (k : Nat) : Nat → Value := fun j => if j < k then .int .u8 (c.toNat : Int) else .int .u8 0
theorem gRow_zero (c : UInt8) (j : Nat) : gRow c 0 j = .int .u8 0 := if_neg (by omega)
theorem gRow_at (c : UInt8) (k : Nat) : gRow c k k = .int .u8 0 := if_neg (by omega)
theorem gRow_set (c : UInt8) (k j : Nat) : (if j = k then Value.int .u8 (c.toNat : Int) else gRow c k j) = gRow c (k + 1) j := by
  unfold gRow
  by_cases h : j = k
  · rw [if_pos h, if_pos (by omega)]
  · rw [if_neg h]
    by_cases h1 : j < k
    · rw [if_pos h1, if_pos (by omega)]
    · rw [if_neg h1, if_neg (by omega)]
def gTxt (c : UInt8) (n : Nat) : ByteArray := ⟨(List.replicate n c).toArray⟩
theorem gTxt_size (c : UInt8) (n : Nat) : (gTxt c n).size = n := by
  show (List.replicate n c).toArray.size = n
  simp
theorem run_gTxt {w : World} {g n : Nat} {c : UInt8} (h : w.rowIs g 5 n (gRow c n)) : (convert 70 9 (.slice (some ⟨g, 0, none⟩) n n)).run Try.prog w = .ok (.string (gTxt c n)) w := by
  have e := run_convert_bytes_back (P := Try.prog) w 70 9 5 ⟨g, 0, none⟩ n (List.replicate n c) Try.underlying70 Try.underlying5 Try.underlying9 (fun j hj => by
    have hj : j < n := by simpa using hj
    rw [add_plain, Nat.zero_add, h.cell hj]
    unfold gRow
    rw [if_pos hj, List.getElem_replicate])
  rw [List.length_replicate] at e
  exact e
end Go.Proofs.Ytfpahdnhnhkcdaa
