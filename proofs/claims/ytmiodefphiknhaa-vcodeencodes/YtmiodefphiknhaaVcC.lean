/-
  Contracts of package vcode's Encode and Decode, and with them all that the layer's laws ask of the package (vcCode), over this seat's translation.
  Conditions: at most 10,000 entries a list, 100 lists; texts of at most 1,000,000 bytes.
-/
import Derived.Test.YtmiodefphiknhaaVcB
namespace Go.Proofs.Ytmiodefphiknhaa
open Go.RowKit

/-- The pen has room enough, whatever its limit is from 65536 on. -/
theorem enc_pen11 {v : List En} {M : Int} (hM : 65536 ≤ M) (hn : ∀ x ∈ v, U64 x.n) : (pEnd (pVec M (⟨#[]⟩, 0) v).1 (pVec M (⟨#[]⟩, 0) v).2, (pVec M (⟨#[]⟩, 0) v).2) = encV v := by
  rw [← enc_pen hn]
  by_cases h0 : vCheck v = 0
  · have hs := eVec_size ⟨h0, hn⟩
    rw [pVec_fit ⟨h0, hn⟩ (by show ((0 : Nat) : Int) + _ ≤ _; omega), pVec_fit ⟨h0, hn⟩ (by show ((0 : Nat) : Int) + _ ≤ _; omega)]
  · rw [pVec_no h0, pVec_no h0]
set_option maxRecDepth 100000 in
theorem encode11 (w : World) (ao : Option Addr) (cap : Nat) (l : List En) (ok : Ok11 l) (hc : EnsAt w ao l) :
    Calls Try.prog 9 #[.slice ao l.length cap] w fun e w' => e = .returned (.tuple #[.string (encV l).1, .int .i64 (encV l).2]) ∧ Keep0 w w' := by
  have he := enc_pen11 (M := 9223372036854775807) (by decide) (fun x hx => (ok.2 x hx).2)
  have yn := pnew_any w 9223372036854775807 (by decide)
  have hpm : pMax 9223372036854775807 = 9223372036854775807 := rfl
  rw [hpm] at yn
  have hB : ∀ W, Pen W w.heap.size w.heap.size ⟨#[]⟩ 9223372036854775807 0 → Keep0 w W → Calls Try.prog 23 #[pptr w.heap.size, .slice (some ⟨W.heap.size, 0, none⟩) 1 1] (W.alloc (.cells #[.slice ao l.length cap] 22)) fun e w' => e = .returned (.tuple #[]) ∧ ∃ r', Pen w' w.heap.size r' (pVec 9223372036854775807 (⟨#[]⟩, 0) l).1 9223372036854775807 (pVec 9223372036854775807 (⟨#[]⟩, 0) l).2 ∧ Keep0 w w' := by
    intro W hP hK
    have kA : Keep0 W (W.alloc (.cells #[.slice ao l.length cap] 22)) := (Keep.refl _ W).alloc _
    have hlt := hP.lt
    refine (put11g (some ⟨W.heap.size, 0, none⟩) 1 [l] (hP.keep0 kA) (by decide) (by show 1 ≤ 100; decide) (fun y hy => by rw [List.mem_singleton.1 hy]; exact ok) ?_).mono ?_
    · intro i hi
      obtain rfl : i = 0 := by simpa using hi
      refine ⟨W.heap.size, 0, ao, cap, rfl, by unfold two; omega, cell_alloc W _ rfl, hc.keep0 (hK.trans kA), fun hl g off m e hh => ?_⟩
      have := ens_old hc hl g off m e
      unfold two at hh
      omega
    · rintro e w' ⟨rfl, r', hp, k, _⟩
      exact ⟨rfl, r', hp, (hK.trans kA).step k (fun i hi hh => by omega)⟩
  have e1 : (encV l).1 = pEnd (pVec 9223372036854775807 (⟨#[]⟩, 0) l).1 (pVec 9223372036854775807 (⟨#[]⟩, 0) l).2 := by rw [← he]
  have e2 : (encV l).2 = (pVec 9223372036854775807 (⟨#[]⟩, 0) l).2 := by rw [← he]
  rw [e1, e2]
  have HB : Hid (∀ W, Pen W w.heap.size w.heap.size ⟨#[]⟩ 9223372036854775807 0 → Keep0 w W → Calls Try.prog 23 #[pptr w.heap.size, .slice (some ⟨W.heap.size, 0, none⟩) 1 1] (W.alloc (.cells #[.slice ao l.length cap] 22)) fun e w' => e = .returned (.tuple #[]) ∧ ∃ r', Pen w' w.heap.size r' (pVec 9223372036854775807 (⟨#[]⟩, 0) l).1 9223372036854775807 (pVec 9223372036854775807 (⟨#[]⟩, 0) l).2 ∧ Keep0 w w') := hB
  generalize pVec 9223372036854775807 (⟨#[]⟩, 0) l = P at *
  have ye := fun W r' (h : Pen W w.heap.size r' P.1 9223372036854775807 P.2) => pend_any h
  generalize pEnd P.1 P.2 = PE at *
  clear he e1 e2 hpm hB hc ok
  go_enter Try.func9, Try.ntmps9
  go_wp2_with fail
  refine yn.mono ?_
  rintro e w1 ⟨rfl, h1, k1⟩
  have yp := HB.out w1 h1 k1
  clear yn HB
  go_wp2_with fail
  refine yp.mono ?_
  rintro e w2 ⟨rfl, r2, h2, K2⟩
  have ye := ye _ _ h2
  clear yp k1 h1
  go_wp2_with fail
  refine ye.mono ?_
  rintro e w3 ⟨rfl, rfl⟩
  clear ye
  go_wp2
  go_ret2
  exact ⟨rfl, K2⟩
set_option maxRecDepth 100000 in
theorem decode11 (w : World) (s : ByteArray) (hs : s.size ≤ maxLen) :
    Calls Try.prog 12 #[.string s] w (REnsE (decV s) w) := by
  have yn := new_any w s hs
  have yt := fun W (h : Cur W w.heap.size s 0 0) => take11 h
  rw [rX_yes] at yt
  have HE : Hid (∀ (W : World) (e : Ending) (E : Int), decV s = ([], E) → e = .returned (.tuple #[.slice none 0 0, .int .i64 E]) → Keep0 w W → REnsE (decV s) w e W) := fun _ _ _ h1 h2 h3 => REnsE.bare h1 h2 h3
  have HM : Hid (∀ (W : World) (e : Ending) (bo : Option Addr) (c : Nat) (R : List En), decV s = (R, 0) → e = .returned (.tuple #[.slice bo R.length c, .int .i64 0]) → EnsAt W bo R → (∀ g off m, bo = some ⟨g, off, m⟩ → w.heap.size ≤ g) → Keep0 w W → REnsE (decV s) w e W) := by
    intro W e bo c R h1 h2 h3 h4 h5
    rw [h1]
    exact REnsE.mk h2 h3 h4 h5
  have HD : Hid (if cEnd s (rVec s 0).2.1 (rVec s 0).2.2 = 0 then decV s = ((rVec s 0).1, 0) else decV s = ([], cEnd s (rVec s 0).2.1 (rVec s 0).2.2)) := by
    show if _ then _ else _
    unfold decV
    split <;> rfl
  have ye := fun W (h : Cur W w.heap.size s (rVec s 0).2.1 (rVec s 0).2.2) => end_any h
  generalize hE : cEnd s (rVec s 0).2.1 (rVec s 0).2.2 = E at *
  obtain ⟨RV, hRV⟩ : ∃ RV, rVec s 0 = RV := ⟨_, rfl⟩
  rw [hRV] at yt ye HD
  clear hE hRV
  by_cases hz : E = 0
  · subst hz
    have hd := HD.out
    rw [if_pos rfl] at hd
    have HD2 : Hid (decV s = (RV.1, 0)) := hd
    clear hd HD HE
    generalize hg : w.heap.size = g at *
    go_enter Try.func12, Try.ntmps12
    go_wp2_with fail
    refine yn.mono ?_
    rintro e w0 ⟨rfl, c0, k0⟩
    have yt := yt _ c0
    have z0 := k0.size
    have hlt := c0.lt
    clear yn
    go_wp2_with fail
    refine yt.mono ?_
    rintro e w1 ⟨ao, cap, rfl, hc1, x1, x2, k1⟩
    have K1 : Keep0 w w1 := k0.step k1 (fun i hi hh => by omega)
    have ye := ye _ hc1
    clear yt k1 k0
    go_wp2_with fail
    refine ye.mono ?_
    rintro e w2 ⟨rfl, hc2, k2⟩
    have K2 : Keep0 w w2 := K1.step k2 (fun i hi hh => by omega)
    have x3 := x1.keep k2 (fun g' off m e hh => by have := x2 g' off m e; omega)
    clear ye k2 K1 x1 hc1 hc2
    go_wp2
    go_ret2
    exact HM.out _ _ _ _ _ HD2.out rfl x3 (fun g' off m e => by have := x2 g' off m e; omega) K2
  · have hd := HD.out
    rw [if_neg hz] at hd
    have HD2 : Hid (decV s = ([], E)) := hd
    have e0 : (E != 0) = true := by simpa using hz
    clear hd HD HM hz
    generalize hg : w.heap.size = g at *
    go_enter Try.func12, Try.ntmps12
    go_wp2_with fail
    refine yn.mono ?_
    rintro e w0 ⟨rfl, c0, k0⟩
    have yt := yt _ c0
    have z0 := k0.size
    clear yn
    go_wp2_with fail
    refine yt.mono ?_
    rintro e w1 ⟨ao, cap, rfl, hc1, x1, x2, k1⟩
    have K1 : Keep0 w w1 := k0.step k1 (fun i hi hh => by omega)
    have ye := ye _ hc1
    clear yt k1 k0 x1 x2
    go_wp2_with fail
    refine ye.mono ?_
    rintro e w2 ⟨rfl, hc2, k2⟩
    have K2 : Keep0 w w2 := K1.step k2 (fun i hi hh => by omega)
    clear ye k2 K1 hc1 hc2
    go_wp2
    go_ret2
    exact HE.out _ _ _ HD2.out rfl K2
/-- The landed package is as the laws ask. -/
theorem vcCode : VcCode where
  encode := encode11
  decode := fun w s hs => decode11 w s (by unfold maxLen; omega)
  take := fun h _ => take11 h
  put := fun ao cap ls h ht hls hok hc hk hb hr => put11 ao cap ls h ht hls hok hc hk hb hr
end Go.Proofs.Ytmiodefphiknhaa
