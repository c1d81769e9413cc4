/-
  Contracts of package pairs' placed and of what it calls (strings.Compare, slices.BinarySearchFunc), each proved over this seat's translation.
  Conditions: as each says.
-/
import Derived.Test.YtmcinehbhgaiaaaPrB
import Derived.Lib.Bytealg
namespace Go.Proofs.Ytmcinehbhgaiaaa
open Go.RowKit

/-! ### comparing -/
def cT (a b : ByteArray) : Int := Lib.compareBytes a.data.toList b.data.toList
theorem cmp_list14 : ∀ l r : List UInt8, Lib.compareBytes l r = if lBelow l r = true then -1 else if l = r then 0 else 1
  | [], [] => rfl
  | [], _ :: _ => rfl
  | _ :: _, [] => rfl
  | a :: l, b :: r => by
    unfold Lib.compareBytes
    show _ = if (if a = b then lBelow l r else decide (a.toNat < b.toNat)) = true then -1 else _
    by_cases h : a = b
    · subst h
      rw [if_neg (UInt8.lt_irrefl a), if_neg (UInt8.lt_irrefl a), cmp_list14 l r, if_pos rfl]
      simp
    · rw [if_neg h]
      have hne : ¬ (a :: l = b :: r) := fun e => h (by cases e; rfl)
      rw [if_neg hne]
      by_cases hlt : a < b
      · rw [if_pos hlt, if_pos (by simpa [UInt8.lt_iff_toNat_lt] using hlt)]
      · have h2 : b < a := UInt8.lt_of_le_of_ne (UInt8.not_lt.1 hlt) (Ne.symm h)
        rw [if_neg hlt, if_pos h2, if_neg (by simpa [UInt8.lt_iff_toNat_lt] using hlt)]
theorem cT_eq (a b : ByteArray) : cT a b = if bl a b = true then -1 else if a = b then 0 else 1 := by
  unfold cT bl
  rw [cmp_list14]
  by_cases h : a = b
  · subst h; simp
  · rw [if_neg h, if_neg (fun e => h (ByteArray.ext (Array.ext' e)))]
theorem cT_lt {a b : ByteArray} (h : bl a b = true) : cT a b = -1 := by rw [cT_eq, if_pos h]
theorem cT_no {a b : ByteArray} (h : bl a b = false) : 0 ≤ cT a b := by rw [cT_eq, h, if_neg (by decide)]; split <;> decide
theorem cT_zero {a b : ByteArray} : cT a b = 0 ↔ a = b := by
  rw [cT_eq]
  constructor
  · intro h
    by_cases h1 : bl a b = true
    · rw [if_pos h1] at h; exact absurd h (by decide)
    · rw [if_neg h1] at h
      by_cases h2 : a = b
      · exact h2
      · rw [if_neg h2] at h; exact absurd h (by decide)
  · rintro rfl
    rw [bl_irr, if_neg (by decide), if_pos rfl]
set_option maxRecDepth 100000 in
theorem cmpstr14 (w : World) (a b : ByteArray) : Calls Try.prog 66 #[.string a, .string b] w fun e w' => e = .returned (.int .i64 (cT a b)) ∧ w = w' := by
  unfold cT
  go_enter Try.func66, Try.ntmps66
  go_wp2
  rw [run_callFunc_extern Try.func68 (by kernel_rfl) (by kernel_rfl) (by kernel_rfl) (e := Extern.BytealgCompare.compare) (by kernel_rfl), Lib.run_compareString]
  simp only [Result.andThen]
  rw [Oper.upon_value]
  go_wp2
  go_ret
  exact ⟨rfl, rfl⟩
set_option maxRecDepth 100000 in
theorem compare14 (w : World) (a b : ByteArray) : Calls Try.prog 58 #[.string a, .string b] w fun e w' => e = .returned (.int .i64 (cT a b)) ∧ w = w' := by
  have y := cmpstr14 w a b
  generalize cT a b = C at *
  go_enter Try.func58, Try.ntmps58
  go_wp2_with fail
  refine y.mono ?_
  rintro e w' ⟨rfl, rfl⟩
  go_wp2
  go_ret
  exact ⟨rfl, rfl⟩
set_option maxRecDepth 100000 in
theorem placing14 (w : World) (a v b : ByteArray) : Calls Try.prog 57 #[.agg #[.string a, .string v], .string b] w fun e w' => e = .returned (.int .i64 (cT a b)) ∧ Keep0 w w' := by
  have kA : Keep0 w (w.alloc (.cells #[.string a, .string v] 59)) := (Keep.refl _ w).alloc _
  have y := compare14 (w.alloc (.cells #[.string a, .string v] 59)) a b
  generalize cT a b = C at *
  go_enter Try.func57, Try.ntmps57
  go_wp2_with fail
  refine y.mono ?_
  rintro e w' ⟨rfl, rfl⟩
  go_wp2
  go_ret
  exact ⟨rfl, kA⟩

/-! ### where a name belongs -/
def Spot (l : List Pr) (s : ByteArray) (k : Nat) (d : Bool) : Prop := k ≤ l.length ∧ (∀ t (_ : t < l.length), t < k → bl l[t].n s = true) ∧ (∀ t (_ : t < l.length), k ≤ t → bl l[t].n s = false) ∧ (d = true ↔ ∃ _ : k < l.length, l[k].n = s)
def RSpot (l : List Pr) (s : ByteArray) (w : World) (e : Ending) (w' : World) : Prop := ∃ k d, e = .returned (.tuple #[.int .i64 (k : Nat), .bool d]) ∧ Spot l s k d ∧ Keep0 w w'
def Rises (l : List Pr) : Prop := l.Pairwise (fun x y => bl x.n y.n = true)
theorem rises_lt {l : List Pr} (h : Rises l) {i j : Nat} (hj : j < l.length) (hij : i < j) : bl (l[i]'(by omega)).n l[j].n = true := List.pairwise_iff_getElem.1 h i j (by omega) hj hij
theorem rises_below {l : List Pr} (h : Rises l) {s : ByteArray} {i j : Nat} (hj : j < l.length) (hij : i ≤ j) (hb : bl l[j].n s = true) : bl (l[i]'(by omega)).n s = true := by
  by_cases e : i = j
  · subst e; exact hb
  · exact bl_trans (rises_lt h hj (by omega)) hb
set_option maxRecDepth 100000 in
set_option maxHeartbeats 4000000 in
theorem search14 (w : World) (ao : Option Addr) (cap : Nat) (l : List Pr) (s : ByteArray) (hl : l.length ≤ 1000000) (hr : Rises l) (hc : PrsAt w ao l) :
    Calls Try.prog 56 #[.slice ao l.length cap, .string s, .func (.func 57) #[] #[]] w (RSpot l s w) := by
  have HC : Hid (PrsAt w ao l) := hc
  have HR : Hid (Rises l) := hr
  have hl' : (l.length : Int) ≤ 1000000 := by omega
  have HS0 : Hid (∀ t (_ : t < l.length), t < 0 → bl l[t].n s = true) := fun t _ h => absurd h (Nat.not_lt_zero t)
  have HS1 : Hid (∀ t (_ : t < l.length), l.length ≤ t → bl l[t].n s = false) := fun t h h2 => by omega
  have HM : Hid (∀ (W : World) (e : Ending) (k : Nat) (d : Bool), e = .returned (.tuple #[.int .i64 (k : Nat), .bool d]) → Spot l s k d → Keep0 w W → RSpot l s w e W) := fun W e k d h1 h2 h3 => ⟨k, d, h1, h2, h3⟩
  clear hc hr
  go_enter Try.func56, Try.ntmps56
  go_wp2_with fail
  go_loopw [9, 10] (fun i j wr => ∃ (lo hi : Nat), i = .int .i64 (lo : Int) ∧ j = .int .i64 (hi : Int) ∧ lo ≤ hi ∧ hi ≤ l.length ∧ Hid (∀ t (_ : t < l.length), t < lo → bl l[t].n s = true) ∧ Hid (∀ t (_ : t < l.length), hi ≤ t → bl l[t].n s = false) ∧ Keep0 w wr) (fun i j _ => (intOf j).toNat - (intOf i).toNat)
  case atStart => exact ⟨0, l.length, rfl, rfl, by omega, by omega, HS0, HS1, Keep.refl _ _⟩
  case round =>
    obtain ⟨lo, hi, rfl, rfl, hlh, hhi, HA, HB, hK⟩ := hrel
    clear HS0 HS1
    by_cases hlt : lo < hi
    · have i1 : (lo : Int) < hi := by omega
      obtain ⟨m, hm⟩ : ∃ m, (lo + hi) / 2 = m := ⟨_, rfl⟩
      have hml : m < l.length := by omega
      have i2 : ((lo : Int) + (hi : Int)) / 2 = (m : Int) := by omega
      have i3 : (m : Int) < l.length := by omega
      obtain ⟨b, off, rfl, p0, p1⟩ := HC.out m hml
      have x0 := hK.cell p0 (fun f => f)
      have x1 := hK.cell p1 (fun f => f)
      have y := placing14 wr l[m].n l[m].v s
      have hlo : lo ≤ m := by omega
      have hmh : m < hi := by omega
      clear p0 p1
      cases hb : bl l[m].n s with
      | true =>
        have HA2 : Hid (∀ t (_ : t < l.length), t < m + 1 → bl l[t].n s = true) := fun t ht h => rises_below HR.out hml (by omega) hb
        rw [cT_lt hb] at y
        clear hb hm
        generalize l[m].n = A at *
        generalize l[m].v = V at *
        go_wp2_with fail
        refine y.mono ?_
        rintro e w1 ⟨rfl, k1⟩
        have K1 := hK.trans k1
        clear y k1 hK x0 x1
        go_wp2
        go_roundw
        case rel => exact ⟨m + 1, hi, by go_num, rfl, by omega, hhi, HA2, HB, K1⟩
        case measure => simp [intOf]; omega
      | false =>
        have HB2 : Hid (∀ t (_ : t < l.length), m ≤ t → bl l[t].n s = false) := by
          intro t ht h
          cases hb2 : bl l[t].n s with
          | false => rfl
          | true => rw [rises_below HR.out ht h hb2] at hb; cases hb
        have i4 : ¬ cT l[m].n s < 0 := by have := cT_no hb; omega
        clear hb hm
        generalize cT l[m].n s = C at *
        generalize l[m].n = A at *
        generalize l[m].v = V at *
        go_wp2_with fail
        refine y.mono ?_
        rintro e w1 ⟨rfl, k1⟩
        have K1 := hK.trans k1
        clear y k1 hK x0 x1
        go_wp2
        go_roundw
        case rel => exact ⟨lo, m, rfl, by go_num, by omega, by omega, HA, HB2, K1⟩
        case measure => simp [intOf]; omega
    · have e : hi = lo := by omega
      subst e
      have i1 : ¬ (hi : Int) < hi := by omega
      by_cases hlt2 : hi < l.length
      · have i3 : (hi : Int) < l.length := by omega
        obtain ⟨b, off, rfl, p0, p1⟩ := HC.out hi hlt2
        have x0 := hK.cell p0 (fun f => f)
        have x1 := hK.cell p1 (fun f => f)
        have y := placing14 wr l[hi].n l[hi].v s
        have HD : Hid (∀ d, (d = true ↔ l[hi].n = s) → Spot l s hi d) := fun d h => ⟨hhi, HA.out, HB.out, h.trans ⟨fun e => ⟨hlt2, e⟩, fun e => e.2⟩⟩
        have HE : Hid (cT l[hi].n s = 0 ↔ l[hi].n = s) := cT_zero
        clear p0 p1
        by_cases hz : cT l[hi].n s = 0
        · have HF : Hid (Spot l s hi true) := HD.out true ⟨fun _ => HE.out.1 hz, fun _ => rfl⟩
          rw [hz] at y
          clear hz HD HE
          generalize l[hi].n = A at *
          generalize l[hi].v = V at *
          go_wp2_with fail
          refine y.mono ?_
          rintro e w1 ⟨rfl, k1⟩
          have K1 := hK.trans k1
          clear y k1 hK x0 x1
          go_wp2
          go_ret2
          exact HM.out _ _ hi true rfl HF.out K1
        · have HF : Hid (Spot l s hi false) := HD.out false ⟨fun e => (by cases e), fun e => absurd (HE.out.2 e) hz⟩
          have e0 : (cT l[hi].n s == 0) = false := beq_eq_false_iff_ne.2 hz
          clear HD HE
          generalize cT l[hi].n s = C at *
          generalize l[hi].n = A at *
          generalize l[hi].v = V at *
          go_wp2_with fail
          refine y.mono ?_
          rintro e w1 ⟨rfl, k1⟩
          have K1 := hK.trans k1
          clear y k1 hK x0 x1
          go_wp2
          go_ret2
          exact HM.out _ _ hi false rfl HF.out K1
      · have i3 : ¬ (hi : Int) < l.length := by omega
        have HF : Hid (Spot l s hi false) := ⟨hhi, HA.out, HB.out, ⟨fun e => (by cases e), fun e => absurd e.1 hlt2⟩⟩
        go_wp2
        go_ret2
        exact HM.out _ _ hi false rfl HF.out hK
end Go.Proofs.Ytmcinehbhgaiaaa
