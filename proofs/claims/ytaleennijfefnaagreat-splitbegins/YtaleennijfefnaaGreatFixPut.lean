/-
  Contracts of layer 4's Encode and Put, and of the document's bytes and Put, each proved over this seat's translation.
  Conditions: a number takes 64 bits.
-/
import Derived.Test.YtaleennijfefnaaGreatFixNum
import Derived.Test.YtaleennijfefnaaGreatRef02
namespace Go.Proofs.YtaleennijfefnaaGreat
open Go.RowKit

/-- What Encode answers: the text, the error. -/
def eErr (k : Int) (n : Nat) : Int := if fIs k = true then (if fGreat k < n then 5 else 0) else 1
def eText (k : Int) (n : Nat) : ByteArray := if eErr k n = 0 then bText k.toNat n else ⟨#[]⟩
theorem eErr_none {k : Int} {n : Nat} (h : fIs k = false) : eErr k n = 1 := by unfold eErr; rw [h]; rfl
theorem eErr_over {k : Int} {n : Nat} (h : fIs k = true) (h1 : fGreat k < n) : eErr k n = 5 := by unfold eErr; rw [if_pos h, if_pos h1]
theorem eErr_ok {k : Int} {n : Nat} (h : fIs k = true) (h1 : ¬ fGreat k < n) : eErr k n = 0 := by unfold eErr; rw [if_pos h, if_neg h1]
theorem eText_no {k : Int} {n : Nat} (h : eErr k n ≠ 0) : eText k n = ⟨#[]⟩ := if_neg h
theorem eText_yes {k : Int} {n : Nat} (h : eErr k n = 0) : eText k n = bText k.toNat n := if_pos h
theorem eText_size (k : Int) (n : Nat) : (eText k n).size ≤ 8 := by
  by_cases h : eErr k n = 0
  · rw [eText_yes h, bText_size]
    have h1 : fIs k = true := by
      cases hf : fIs k with
      | true => rfl
      | false => rw [eErr_none hf] at h; exact absurd h (by decide)
    obtain ⟨j, rfl, hj1, hj8⟩ := fIs_nat h1
    omega
  · rw [eText_no h]
    decide
set_option maxRecDepth 100000 in
theorem encode4_any (w : World) (k : Int) (n : Nat) :
    Calls Tryz.prog 38 #[.int .i64 k, .int .u64 n] w fun e w' => e = .returned (.tuple #[.string (eText k n), .int .i64 (eErr k n)]) ∧ Keep0 w w' := by
  cases hf : fIs k with
  | false =>
    have e1 := eErr_none (n := n) hf
    rw [eText_no (by rw [e1]; decide), e1]
    go_enter Tryz.func38, Tryz.ntmps38
    go_wp2_with (go_at_call 63; refine (isWidth_any w k).mono ?_; rw [hf]; rintro e w' ⟨rfl, rfl⟩)
    go_ret2
    exact ⟨rfl, Keep.refl _ _⟩
  | true =>
    by_cases ho : fGreat k < n
    · have e1 := eErr_over hf ho
      rw [eText_no (by rw [e1]; decide), e1]
      go_enter Tryz.func38, Tryz.ntmps38
      go_wp2_with (first | (go_at_call 63; refine (isWidth_any w k).mono ?_; rw [hf]; rintro e w' ⟨rfl, rfl⟩) | (go_at_call 64; refine (greatest_any w k).mono ?_; rintro e w' ⟨rfl, rfl⟩))
      go_ret2
      exact ⟨rfl, Keep.refl _ _⟩
    · have e1 := eErr_ok hf ho
      rw [eText_yes e1, e1]
      clear e1
      obtain ⟨j, rfl, hj1, hj8⟩ := fIs_nat hf
      have ht := fun W => text_any W j n hj8
      have hj : ((j : Int)).toNat = j := rfl
      rw [hj]
      go_enter Tryz.func38, Tryz.ntmps38
      go_wp2_with (first | (go_at_call 63; refine (isWidth_any w j).mono ?_; rw [hf]; rintro e w' ⟨rfl, rfl⟩) | (go_at_call 64; refine (greatest_any w j).mono ?_; rintro e w' ⟨rfl, rfl⟩) | (go_at_call 65; refine (ht w).mono ?_; rintro e w1 ⟨rfl, k1⟩))
      go_ret2
      exact ⟨rfl, k1⟩

/-! ### the document's own -/
theorem run_one4 {src dst : TypeId} (hs : Tryz.prog.underlying src = some (.slice 5)) (hd : Tryz.prog.underlying dst = some .string) (W : World) (g : Nat) (c : UInt8) (x : Int) (hx : (c.toNat : Int) = x)
    (hc : W.cell? ⟨g, 0, none⟩ = some (.int .u8 x)) : (convert src dst (.slice (some ⟨g, 0, none⟩) 1 1)).run Tryz.prog W = .ok (.string (one c)) W := by
  have h := run_convert_bytes_back (P := Tryz.prog) W src dst 5 ⟨g, 0, none⟩ 1 [c] hs Tryz.underlying5 hd (fun j hj => by
    obtain rfl : j = 0 := by simpa using hj
    subst hx
    exact hc)
  exact h
theorem bText_cons (j n : Nat) : bText (j + 1) n = one (UInt8.ofNat (n / 256 ^ j % 256)) ++ bText j n := by
  apply ByteArray.ext
  unfold bText
  rw [bEnc_cons, ByteArray.data_append]
  apply Array.ext'
  simp [one]
set_option maxRecDepth 100000 in
theorem rbytes4_any (w : World) (k n : Nat) (hk : k ≤ 8) (hn : n < 18446744073709551616) :
    Calls Tryz.prog 47 #[.int .i64 k, .int .u64 n] w fun e w' => e = .returned (.tuple #[.string (bText k n), .int .u64 (n / 256 ^ k : Nat)]) ∧ Keep0 w w' := by
  go_enter Tryz.func47, Tryz.ntmps47
  go_wp2_with fail
  go_loopw [1, 6, 7] (fun v s i wr => ∃ (j N : Nat), j ≤ k ∧ v = .int .u64 N ∧ N = n / 256 ^ j ∧ s = .string (bText j n) ∧ i = .int .i64 j ∧ Keep0 w wr) (fun _ _ i _ => k - (intOf i).toNat)
  case atStart => exact ⟨0, n, by omega, rfl, by simp, rfl, rfl, Keep.refl _ _⟩
  case round =>
    obtain ⟨j, N, hj, rfl, hN, rfl, rfl, hK⟩ := hrel
    have hNn : N < 18446744073709551616 := by rw [hN]; exact Nat.lt_of_le_of_lt (Nat.div_le_self _ _) hn
    by_cases hlt : j < k
    · have hb := bText_cons j n
      rw [← hN] at hb
      have hdv : N / 256 = n / 256 ^ (j + 1) := by rw [hN, Nat.div_div_eq_div_mul, Nat.pow_succ]
      have hcn : ((UInt8.ofNat (N % 256)).toNat : Int) = (N : Int) % 256 := by rw [byte_nat4 (by omega)]; omega
      generalize UInt8.ofNat (N % 256) = c at *
      have hcv := run_one4 (src := 58) (dst := 9) Tryz.underlying58 Tryz.underlying9 (wr.alloc (.cells #[.int .u8 ((N : Int) % 256)] 5)) wr.heap.size c _ hcn (cell_alloc wr _ rfl)
      have hsz : (one c).size + (bText j n).size ≤ 4611686018427387904 := by rw [one_size, bText_size]; omega
      have HB : Hid (bText (j + 1) n = one c ++ bText j n) := hb
      have HD : Hid (N / 256 = n / 256 ^ (j + 1)) := hdv
      clear hb hdv hcn hN
      go_wp2
      go_roundw
      case rel => exact ⟨j + 1, N / 256, by omega, by go_num, HD.out, by rw [HB.out], by go_num, hK.alloc _⟩
      case measure => simp [intOf]; omega
    · obtain rfl : j = k := by omega
      have HN : Hid (N = n / 256 ^ j) := hN
      clear hN
      go_wp2
      go_ret2
      refine ⟨?_, hK⟩
      rw [← HN.out]
      rfl

/-! ### Put -/
/-- What writing one number comes to; what the width leaves; what writing numbers comes to. -/
def pPut (m k : Int) (p : ByteArray × Int) (n : Nat) : ByteArray × Int := pOne m (p.1, pFail p.2 (eErr k n)) (eText k n)
def pStart (k x : Int) : Int := if fIs k = true then x else pFail x 1
def pPuts (m k : Int) (p : ByteArray × Int) (ns : List Nat) : ByteArray × Int := ns.foldl (pPut m k) p
theorem pFail_ne {x y : Int} (h : y ≠ 0) : pFail x y ≠ 0 := by unfold pFail; split <;> assumption
theorem pFail_z (x : Int) : pFail x 0 = x := by unfold pFail; split <;> omega
theorem pPut_err {m k : Int} {t : ByteArray} {x : Int} {n : Nat} (h : eErr k n ≠ 0) : pPut m k (t, x) n = (t, pFail x (eErr k n)) := pOne_err (pFail_ne h)
theorem pPut_ok {m k : Int} {t : ByteArray} {x : Int} {n : Nat} (h : eErr k n = 0) : pPut m k (t, x) n = pOne m (t, x) (bText k.toNat n) := by
  unfold pPut
  rw [h, pFail_z, eText_yes h]
theorem pPuts_take (m k : Int) (p : ByteArray × Int) (ns : List Nat) (i : Nat) (h : i < ns.length) : pPuts m k p (ns.take (i + 1)) = pPut m k (pPuts m k p (ns.take i)) ns[i] := by
  unfold pPuts
  rw [List.take_succ_eq_append_getElem h, List.foldl_append]
  rfl
theorem pOne_size4 (m : Int) (t : ByteArray) (x : Int) (s : ByteArray) : (pOne m (t, x) s).1.size ≤ t.size + s.size := by
  have := pAll_size m [s] (t, x)
  simpa [pAll] using this
theorem pPuts_size (m k : Int) : ∀ (ns : List Nat) (p : ByteArray × Int), (pPuts m k p ns).1.size ≤ p.1.size + 8 * ns.length
  | [], _ => Nat.le_refl _
  | n :: ns, p => by
    have h := pPuts_size m k ns (pPut m k p n)
    have h1 : (pPut m k p n).1.size ≤ p.1.size + (eText k n).size := pOne_size4 _ _ _ _
    have h2 := eText_size k n
    have h3 : pPuts m k p (n :: ns) = pPuts m k (pPut m k p n) ns := rfl
    rw [h3, List.length_cons]
    omega
theorem fGreat_div {j n : Nat} (hf : fIs (j : Int) = true) : fGreat (j : Int) < n ↔ 0 < n / 256 ^ j := by
  rw [fGreat_pow hf]
  have hj : ((j : Int)).toNat = j := rfl
  have hp : 0 < 256 ^ j := Nat.pow_pos (by decide)
  rw [hj]
  rw [Nat.div_pos_iff]
  omega
set_option maxRecDepth 100000 in
theorem rput4_any {w : World} {b : Nat} {t : ByteArray} {m x : Int} (k : Int) (n : Nat) (hn : n < 18446744073709551616) (h : RPen w b t m x) (ht : t.size ≤ 140737488355328) :
    Calls Tryz.prog 28 #[pptr b, .int .i64 k, .int .u64 n] w fun e w' => e = .returned (.tuple #[]) ∧ RPen w' b (pPut m k (t, x) n).1 m (pPut m k (t, x) n).2 ∧ Keep1 b w w' := by
  cases hf : fIs k with
  | false =>
    have e1 := eErr_none (n := n) hf
    rw [pPut_err (by rw [e1]; decide), e1]
    go_enter Tryz.func28, Tryz.ntmps28
    go_wp2_with (first | (go_at_call 45; refine (rwidth_any w k).mono ?_; rw [hf]; rintro e w' ⟨rfl, rfl⟩) | (go_at_call 46; refine (rpfail_any 1 h).mono ?_; rintro e w1 ⟨rfl, hp1, k1⟩))
    refine bodyPost_ret (results_none rfl _ _ _) rfl ?_
    exact ⟨rfl, hp1, k1⟩
  | true =>
    obtain ⟨j, rfl, hj1, hj8⟩ := fIs_nat hf
    have hj : ((j : Int)).toNat = j := rfl
    have hd := fGreat_div (n := n) hf
    have hby := fun W => rbytes4_any W j n hj8 hn
    by_cases ho : fGreat (j : Int) < n
    · have e1 := eErr_over hf ho
      rw [pPut_err (by rw [e1]; decide), e1]
      have hmore : (0 : Int) < ((n / 256 ^ j : Nat) : Int) := by have := hd.1 ho; omega
      clear hd e1
      generalize n / 256 ^ j = M at *
      go_enter Tryz.func28, Tryz.ntmps28
      go_wp2_with (first | (go_at_call 45; refine (rwidth_any w j).mono ?_; rw [hf]; rintro e w' ⟨rfl, rfl⟩) | (go_at_call 47; refine (hby w).mono ?_; rintro e w1 ⟨rfl, k1⟩) | (go_at_call 46; refine (rpfail_any 5 (h.keep0 k1)).mono ?_; rintro e w2 ⟨rfl, hp2, k2⟩))
      refine bodyPost_ret (results_none rfl _ _ _) rfl ?_
      exact ⟨rfl, hp2, k1.any.trans k2⟩
    · have e1 := eErr_ok hf ho
      rw [pPut_ok e1, hj]
      have hmore : n / 256 ^ j = 0 := Nat.eq_zero_of_not_pos (fun h => ho (hd.2 h))
      rw [hmore] at hby
      have hbs : t.size + (bText j n).size ≤ 4611686018427387904 := by rw [bText_size]; omega
      clear hd e1 hmore
      go_enter Tryz.func28, Tryz.ntmps28
      go_wp2_with (first | (go_at_call 45; refine (rwidth_any w j).mono ?_; rw [hf]; rintro e w' ⟨rfl, rfl⟩) | (go_at_call 47; refine (hby w).mono ?_; rintro e w1 ⟨rfl, k1⟩) | (go_at_call 48; refine (rptext_any (bText j n) (h.keep0 k1) hbs).mono ?_; rintro e w2 ⟨rfl, hp2, k2⟩))
      go_end0
      exact ⟨rfl, hp2, k1.any.trans k2⟩
end Go.Proofs.YtaleennijfefnaaGreat
