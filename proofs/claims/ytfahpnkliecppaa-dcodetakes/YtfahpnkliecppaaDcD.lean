/-
  Contracts of package dcode's Encode, Decode and Below, and with them all that the layer's laws ask of the package (dcCode), over this seat's translation.
  Conditions: at most 10,000 entries a vector, 100 clocks; texts of at most 1,000,000 bytes.
-/
import Derived.Test.YtfahpnkliecppaaDcC
namespace Go.Proofs.Ytfahpnkliecppaa
open Go.RowKit

/-- The pen has room enough, whatever its limit is from 65536 on. -/
theorem enc_pen13 {k : Ck} {M : Int} (hM : 65536 ≤ M) (hn : ∀ x ∈ k.c, U64 x.n) (hx : U64 k.x.n) : (pEnd (pClk M (⟨#[]⟩, 0) k).1 (pClk M (⟨#[]⟩, 0) k).2, (pClk M (⟨#[]⟩, 0) k).2) = encK k := by
  rw [← encK_pen hn hx]
  by_cases h0 : kCheck k = 0
  · have hs := eClk_size ⟨h0, hn, hx⟩
    rw [pClk_fit ⟨h0, hn, hx⟩ (by show ((0 : Nat) : Int) + _ ≤ _; omega), pClk_fit ⟨h0, hn, hx⟩ (by show ((0 : Nat) : Int) + _ ≤ _; omega)]
  · rw [pClk_no h0, pClk_no h0]
set_option maxRecDepth 100000 in
set_option maxHeartbeats 4000000 in
theorem encode13 (w : World) (ao : Option Addr) (cap : Nat) (k : Ck) (ok : Ok13 k) (hc : EnsAt w ao k.c) :
    Calls Try.prog 9 #[.agg #[.slice ao k.c.length cap, .bool k.d, .string k.x.a, .int .u64 (k.x.n : Int)]] w fun e w' => e = .returned (.tuple #[.string (encK k).1, .int .i64 (encK k).2]) ∧ Keep0 w w' := by
  have he := enc_pen13 (M := 9223372036854775807) (by decide) (fun x hx => (ok.fit.vec.2 x hx).2) ok.fit.num
  have k0 : Keep0 w (w.alloc (.cells #[.slice ao k.c.length cap, .bool k.d, .string k.x.a, .int .u64 (k.x.n : Int)] 27)) := (Keep.refl _ w).alloc _
  have q0 := QAt.new w 27 (.slice ao k.c.length cap) (.bool k.d) (.string k.x.a) (.int .u64 (k.x.n : Int))
  have z0 : (w.alloc (.cells #[.slice ao k.c.length cap, .bool k.d, .string k.x.a, .int .u64 (k.x.n : Int)] 27)).heap.size = w.heap.size + 1 := by rw [World.size_alloc]
  have yn := pnew_any (w.alloc (.cells #[.slice ao k.c.length cap, .bool k.d, .string k.x.a, .int .u64 (k.x.n : Int)] 27)) 9223372036854775807 (by decide)
  have hpm : pMax 9223372036854775807 = 9223372036854775807 := rfl
  rw [hpm, z0] at yn
  have hB : ∀ W, Pen W (w.heap.size + 1) (w.heap.size + 1) ⟨#[]⟩ 9223372036854775807 0 → Keep0 w W → Calls Try.prog 25 #[pptr (w.heap.size + 1), .slice (some ⟨W.heap.size, 0, none⟩) 1 1] (W.alloc (.cells #[.slice ao k.c.length cap, .bool k.d, .string k.x.a, .int .u64 (k.x.n : Int)] 27)) fun e w' => e = .returned (.tuple #[]) ∧ ∃ r', Pen w' (w.heap.size + 1) r' (pClk 9223372036854775807 (⟨#[]⟩, 0) k).1 9223372036854775807 (pClk 9223372036854775807 (⟨#[]⟩, 0) k).2 ∧ Keep0 w w' := by
    intro W hP hK
    have kA : Keep0 W (W.alloc (.cells #[.slice ao k.c.length cap, .bool k.d, .string k.x.a, .int .u64 (k.x.n : Int)] 27)) := (Keep.refl _ W).alloc _
    have hlt := hP.lt
    refine (put13g (some ⟨W.heap.size, 0, none⟩) 1 [k] (hP.keep0 kA) (by decide) (by show 1 ≤ 100; decide) (fun y hy => by rw [List.mem_singleton.1 hy]; exact ok) ?_).mono ?_
    · intro i hi
      obtain rfl : i = 0 := by simpa using hi
      refine ⟨W.heap.size, 0, ao, cap, rfl, by unfold two; omega, clk_new W _ k ao cap, hc.keep0 (hK.trans kA), fun hl g off m e hh => ?_⟩
      have := ens_old hc hl g off m e
      unfold two at hh
      omega
    · rintro e w' ⟨rfl, r', hp, k, _⟩
      exact ⟨rfl, r', hp, (hK.trans kA).step k (fun i hi hh => by omega)⟩
  have e1 : (encK k).1 = pEnd (pClk 9223372036854775807 (⟨#[]⟩, 0) k).1 (pClk 9223372036854775807 (⟨#[]⟩, 0) k).2 := by rw [← he]
  have e2 : (encK k).2 = (pClk 9223372036854775807 (⟨#[]⟩, 0) k).2 := by rw [← he]
  rw [e1, e2]
  have HB : Hid (∀ W, Pen W (w.heap.size + 1) (w.heap.size + 1) ⟨#[]⟩ 9223372036854775807 0 → Keep0 w W → Calls Try.prog 25 #[pptr (w.heap.size + 1), .slice (some ⟨W.heap.size, 0, none⟩) 1 1] (W.alloc (.cells #[.slice ao k.c.length cap, .bool k.d, .string k.x.a, .int .u64 (k.x.n : Int)] 27)) fun e w' => e = .returned (.tuple #[]) ∧ ∃ r', Pen w' (w.heap.size + 1) r' (pClk 9223372036854775807 (⟨#[]⟩, 0) k).1 9223372036854775807 (pClk 9223372036854775807 (⟨#[]⟩, 0) k).2 ∧ Keep0 w w') := hB
  generalize pClk 9223372036854775807 (⟨#[]⟩, 0) k = P at *
  have ye := fun W r' (h : Pen W (w.heap.size + 1) r' P.1 9223372036854775807 P.2) => pend_any h
  generalize pEnd P.1 P.2 = PE at *
  clear he e1 e2 hpm hB hc ok
  go_enter Try.func9, Try.ntmps9
  go_wp2_with fail
  generalize (w.alloc (.cells #[.slice ao k.c.length cap, .bool k.d, .string k.x.a, .int .u64 (k.x.n : Int)] 27)) = W0 at *
  obtain ⟨g, hg⟩ : ∃ g, w.heap.size = g := ⟨_, rfl⟩
  rw [hg] at q0 z0 yn ye HB ⊢
  refine yn.mono ?_
  rintro e w1 ⟨rfl, h1, k1⟩
  have K1 := k0.trans k1
  have yp := HB.out w1 h1 K1
  obtain ⟨x0, x1, x2, x3, f0, f1, f2, f3⟩ := (q0.keep0 k1).cells
  clear yn HB k0 k1 q0
  go_wp2_with fail
  refine yp.mono ?_
  rintro e w2 ⟨rfl, r2, h2, K2⟩
  have ye := ye _ _ h2
  clear yp K1 h1 x0 x1 x2 x3 f0 f1 f2 f3
  go_wp2_with fail
  refine ye.mono ?_
  rintro e w3 ⟨rfl, rfl⟩
  clear ye
  go_wp2
  go_ret2
  exact ⟨rfl, K2⟩

/-! ### Decode -/
set_option maxRecDepth 100000 in
set_option maxHeartbeats 4000000 in
theorem decode13 (w : World) (s : ByteArray) (hs : s.size ≤ maxLen) :
    Calls Try.prog 12 #[.string s] w (RClkE (decK s) w) := by
  have HE : Hid (∀ (W : World) (e : Ending) (E : Int), decK s = (zCk, E) → e = .returned (.tuple #[.agg #[.slice none 0 0, .bool false, .string ⟨#[]⟩, .int .u64 0], .int .i64 E]) → Keep0 w W → RClkE (decK s) w e W) := fun _ _ _ h1 h2 h3 => RClkE.bare h1 h2 h3
  have HM : Hid (∀ (W : World) (e : Ending) (K : Ck) (ao : Option Addr) (cap : Nat), decK s = (K, 0) → e = .returned (.tuple #[.agg #[.slice ao K.c.length cap, .bool K.d, .string K.x.a, .int .u64 (K.x.n : Int)], .int .i64 0]) → EnsAt W ao K.c → (∀ g off m, ao = some ⟨g, off, m⟩ → w.heap.size ≤ g) → Keep0 w W → RClkE (decK s) w e W) := fun _ _ _ _ _ h1 h2 h3 h4 h5 => RClkE.mk h1 h2 h3 h4 h5
  have k0 : Keep0 w (w.alloc (.cells #[.slice none 0 0, .bool false, .string ⟨#[]⟩, .int .u64 0] 27)) := (Keep.refl _ w).alloc _
  have q0 := QAt.new w 27 (.slice none 0 0) (.bool false) (.string ⟨#[]⟩) (.int .u64 0)
  have z0 : (w.alloc (.cells #[.slice none 0 0, .bool false, .string ⟨#[]⟩, .int .u64 0] 27)).heap.size = w.heap.size + 1 := by rw [World.size_alloc]
  have yn := new_any (w.alloc (.cells #[.slice none 0 0, .bool false, .string ⟨#[]⟩, .int .u64 0] 27)) s hs
  rw [z0] at yn
  have yt := fun W (h : Cur W (w.heap.size + 1) s 0 0) => take13 h
  rw [rX_yes] at yt
  have HD : Hid (if cEnd s (rClk s 0).2.1 (rClk s 0).2.2 = 0 then decK s = ((rClk s 0).1, 0) else decK s = (zCk, cEnd s (rClk s 0).2.1 (rClk s 0).2.2)) := by
    show if _ then _ else _
    unfold decK
    split <;> rfl
  have ye := fun (W : World) (h : Cur W (w.heap.size + 1) s (rClk s 0).2.1 (rClk s 0).2.2) => end_any h
  generalize hE : cEnd s (rClk s 0).2.1 (rClk s 0).2.2 = E at *
  obtain ⟨RV, hRV⟩ : ∃ RV, rClk s 0 = RV := ⟨_, rfl⟩
  rw [hRV] at yt ye HD
  clear hE hRV
  obtain ⟨KK, A, X⟩ := RV
  have yt : ∀ (W : World), Cur W (w.heap.size + 1) s 0 0 → Calls Try.prog 20 #[ptr (w.heap.size + 1)] W (fun e w' => ∃ ao cap, e = .returned (.agg #[.slice ao KK.c.length cap, .bool KK.d, .string KK.x.a, .int .u64 (KK.x.n : Int)]) ∧ Cur w' (w.heap.size + 1) s A X ∧ EnsAt w' ao KK.c ∧ (∀ g off m, ao = some ⟨g, off, m⟩ → W.heap.size ≤ g) ∧ Keep1 (w.heap.size + 1) W w') := yt
  have ye : ∀ (W : World), Cur W (w.heap.size + 1) s A X → Calls Try.prog 31 #[ptr (w.heap.size + 1)] W fun e w' => e = .returned (.int .i64 E) ∧ Cur w' (w.heap.size + 1) s A E ∧ Keep1 (w.heap.size + 1) W w' := ye
  have HD : Hid (if E = 0 then decK s = (KK, 0) else decK s = (zCk, E)) := HD
  go_enter Try.func12, Try.ntmps12
  go_wp2_with fail
  generalize (w.alloc (.cells #[.slice none 0 0, .bool false, .string ⟨#[]⟩, .int .u64 0] 27)) = W0 at *
  obtain ⟨g2, hg2⟩ : ∃ g2, w.heap.size = g2 := ⟨_, rfl⟩
  rw [hg2] at q0 z0 yn yt ye ⊢
  obtain ⟨gc, hgc⟩ : ∃ gc, g2 + 1 = gc := ⟨_, rfl⟩
  rw [hgc] at yn yt ye z0
  have n2 : g2 ≠ gc := by omega
  have HG : Hid (w.heap.size = g2 ∧ g2 + 1 = gc) := ⟨hg2, hgc⟩
  refine yn.mono ?_
  rintro e w0 ⟨rfl, c0, kn⟩
  have K0 := k0.trans kn
  have qn := q0.keep0 kn
  have sz0 := c0.lt
  have yt := yt _ c0
  clear yn k0 kn q0 hs
  go_wp2_with fail
  refine yt.mono ?_
  rintro e w1 ⟨vo, vc, rfl, c1, hE1, hF1, k1⟩
  have K1 : Keep0 w w1 := K0.step k1 (fun i hi hh => by have := HG.out; omega)
  have q2a := qn.keep k1 n2
  have HF : Hid (∀ g off m, vo = some ⟨g, off, m⟩ → g2 + 2 ≤ g) := fun g off m e => by have := hF1 g off m e; omega
  clear yt k1 K0 qn hF1 z0 hg2 hgc c0 sz0
  have kB : Keep0 w1 (w1.alloc (.cells #[.slice vo KK.c.length vc, .bool KK.d, .string KK.x.a, .int .u64 (KK.x.n : Int)] 27)) := (Keep.refl _ w1).alloc _
  have q3 := QAt.new w1 27 (.slice vo KK.c.length vc) (.bool KK.d) (.string KK.x.a) (.int .u64 (KK.x.n : Int))
  have c2 := c1.keep0 kB
  have q2b := q2a.keep0 kB
  have hE2 := hE1.keep0 kB
  have K2 := K1.trans kB
  have hlt := c1.lt
  have ye := ye _ c2
  clear kB c1 q2a hE1 K1
  go_wp2_with fail
  generalize (w1.alloc (.cells #[.slice vo KK.c.length vc, .bool KK.d, .string KK.x.a, .int .u64 (KK.x.n : Int)] 27)) = W2 at *
  obtain ⟨g3, hg3⟩ : ∃ g3, w1.heap.size = g3 := ⟨_, rfl⟩
  rw [hg3] at q3 hlt ⊢
  have n3 : g3 ≠ gc := by omega
  refine ye.mono ?_
  rintro e w3 ⟨rfl, c3, k3⟩
  have K3 : Keep0 w w3 := K2.step k3 (fun i hi hh => by have := HG.out; omega)
  have q2c := q2b.keep k3 n2
  have q3c := q3.keep k3 n3
  have hE3 := hE2.keep k3 (fun g off m e hh => by have := HF.out g off m e; have := HG.out; omega)
  clear ye k3 K2 q2b q3 hE2 c2 c3 hg3 hlt
  obtain ⟨u0, u1, u2, u3, f0, f1, f2, f3⟩ := q2c.cells
  obtain ⟨t0, t1, t2, t3, h0, h1, h2, h3⟩ := q3c.cells
  by_cases hz : E = 0
  · have hd := HD.out
    rw [if_pos hz] at hd
    have HV : Hid (decK s = (KK, 0)) := hd
    subst hz
    clear hd HD HE
    go_wp2
    refine bodyPost_ret (retCk2 rfl _ _ _ rfl (q2c.put (.slice vo KK.c.length vc) (.bool KK.d) (.string KK.x.a) (.int .u64 (KK.x.n : Int)))) rfl ?_
    exact HM.out _ _ KK vo vc HV.out rfl (hE3.keep (put4_keep _ _ _ _ _ _) (fun g off m e hh => by have := HF.out g off m e; omega)) (fun g off m e => by have := HF.out g off m e; have := HG.out; omega) (K3.step (put4_keep _ _ _ _ _ _) (fun i hi hh => by have := HG.out; omega))
  · have hd := HD.out
    rw [if_neg hz] at hd
    have HV : Hid (decK s = (zCk, E)) := hd
    have e0 : (E != 0) = true := by simpa using hz
    clear hd HD HM hz
    go_wp2
    refine bodyPost_ret (retCk2 rfl _ _ _ rfl (q2c.put (.slice none 0 0) (.bool false) (.string ⟨#[]⟩) (.int .u64 0))) rfl ?_
    exact HE.out _ _ _ HV.out rfl (K3.step (put4_keep _ _ _ _ _ _) (fun i hi hh => by have := HG.out; omega))

/-! ### Below -/
theorem encK_fine13 {k : Ck} (h : kCheck k = 0) : encK k = (eClk k, 0) := if_pos h
theorem encK_bad13 {k : Ck} (h : kCheck k ≠ 0) : (encK k).2 = kCheck k := by unfold encK; rw [if_neg h]
theorem kBelow_yes {a b : Ck} (h : kCheck a = 0) (h1 : kCheck b = 0) : kBelow a b = (bl (eClk a) (eClk b), 0) := if_pos ⟨h, h1⟩
theorem kBelow_no {a b : Ck} (h : ¬ (kCheck a = 0 ∧ kCheck b = 0)) : kBelow a b = (false, 1) := if_neg h
set_option maxRecDepth 100000 in
set_option maxHeartbeats 4000000 in
theorem below13 (w : World) (ao bo : Option Addr) (ca cb : Nat) (a b : Ck) (oa : Ok13 a) (ob : Ok13 b) (ha : EnsAt w ao a.c) (hb : EnsAt w bo b.c) :
    Calls Try.prog 11 #[.agg #[.slice ao a.c.length ca, .bool a.d, .string a.x.a, .int .u64 (a.x.n : Int)], .agg #[.slice bo b.c.length cb, .bool b.d, .string b.x.a, .int .u64 (b.x.n : Int)]] w fun e w' => e = .returned (.tuple #[.bool (kBelow a b).1, .int .i64 (kBelow a b).2]) ∧ Keep0 w w' := by
  have kA : Keep0 w ((w.alloc (.cells #[.slice ao a.c.length ca, .bool a.d, .string a.x.a, .int .u64 (a.x.n : Int)] 27)).alloc (.cells #[.slice bo b.c.length cb, .bool b.d, .string b.x.a, .int .u64 (b.x.n : Int)] 27)) := ((Keep.refl _ w).alloc _).alloc _
  have qa : QAt ((w.alloc (.cells #[.slice ao a.c.length ca, .bool a.d, .string a.x.a, .int .u64 (a.x.n : Int)] 27)).alloc (.cells #[.slice bo b.c.length cb, .bool b.d, .string b.x.a, .int .u64 (b.x.n : Int)] 27)) w.heap.size (.slice ao a.c.length ca) (.bool a.d) (.string a.x.a) (.int .u64 (a.x.n : Int)) := (QAt.new w 27 _ _ _ _).keep0 ((Keep.refl _ _).alloc _)
  have qb : QAt ((w.alloc (.cells #[.slice ao a.c.length ca, .bool a.d, .string a.x.a, .int .u64 (a.x.n : Int)] 27)).alloc (.cells #[.slice bo b.c.length cb, .bool b.d, .string b.x.a, .int .u64 (b.x.n : Int)] 27)) (w.heap.size + 1) (.slice bo b.c.length cb) (.bool b.d) (.string b.x.a) (.int .u64 (b.x.n : Int)) := by
    have := QAt.new (w.alloc (.cells #[.slice ao a.c.length ca, .bool a.d, .string a.x.a, .int .u64 (a.x.n : Int)] 27)) 27 (.slice bo b.c.length cb) (.bool b.d) (.string b.x.a) (.int .u64 (b.x.n : Int))
    rw [World.size_alloc] at this
    exact this
  have ya := encode13 ((w.alloc (.cells #[.slice ao a.c.length ca, .bool a.d, .string a.x.a, .int .u64 (a.x.n : Int)] 27)).alloc (.cells #[.slice bo b.c.length cb, .bool b.d, .string b.x.a, .int .u64 (b.x.n : Int)] 27)) ao ca a oa (ha.keep0 kA)
  have yb := fun W (K : Keep0 w W) => encode13 W bo cb b ob (hb.keep0 K)
  obtain ⟨xa0, xa1, xa2, xa3, fa0, fa1, fa2, fa3⟩ := qa.cells
  obtain ⟨xb0, xb1, xb2, xb3, fb0, fb1, fb2, fb3⟩ := qb.cells
  by_cases h1 : kCheck a = 0
  case neg =>
    rw [kBelow_no (fun h => h1 h.1)]
    have e2 := encK_bad13 h1
    have e3 : ((encK a).2 != 0) = true := by rw [e2]; simpa using h1
    clear e2 h1 oa ob ha hb
    generalize (encK a).2 = EA at *
    generalize (encK a).1 = TA at *
    generalize (encK b).2 = EB at *
    generalize (encK b).1 = TB at *
    go_enter Try.func11, Try.ntmps11
    go_wp2_with fail
    generalize ((w.alloc (.cells #[.slice ao a.c.length ca, .bool a.d, .string a.x.a, .int .u64 (a.x.n : Int)] 27)).alloc (.cells #[.slice bo b.c.length cb, .bool b.d, .string b.x.a, .int .u64 (b.x.n : Int)] 27)) = W0 at *
    generalize w.heap.size = g at *
    refine ya.mono ?_
    rintro e w1 ⟨rfl, k1⟩
    have K1 := kA.trans k1
    have yb := yb _ K1
    replace qb := qb.keep0 k1
    clear ya kA k1 qa xa0 xa1 xa2 xa3 fa0 fa1 fa2 fa3 xb0 xb1 xb2 xb3 fb0 fb1 fb2 fb3
    obtain ⟨xb0, xb1, xb2, xb3, fb0, fb1, fb2, fb3⟩ := qb.cells
    go_wp2_with fail
    refine yb.mono ?_
    rintro e w2 ⟨rfl, k2⟩
    have K2 := K1.trans k2
    clear yb k2 K1 qb xb0 xb1 xb2 xb3 fb0 fb1 fb2 fb3
    go_wp2
    go_ret2
    exact ⟨rfl, K2⟩
  by_cases h2 : kCheck b = 0
  case neg =>
    rw [kBelow_no (fun h => h2 h.2)]
    have e2 := encK_bad13 h2
    have e3 : ((encK b).2 != 0) = true := by rw [e2]; simpa using h2
    rw [encK_fine13 h1] at ya
    clear e2 h1 h2 oa ob ha hb
    generalize (encK b).2 = EB at *
    generalize (encK b).1 = TB at *
    generalize eClk a = TA at *
    go_enter Try.func11, Try.ntmps11
    go_wp2_with fail
    generalize ((w.alloc (.cells #[.slice ao a.c.length ca, .bool a.d, .string a.x.a, .int .u64 (a.x.n : Int)] 27)).alloc (.cells #[.slice bo b.c.length cb, .bool b.d, .string b.x.a, .int .u64 (b.x.n : Int)] 27)) = W0 at *
    generalize w.heap.size = g at *
    refine ya.mono ?_
    rintro e w1 ⟨rfl, k1⟩
    have K1 := kA.trans k1
    have yb := yb _ K1
    replace qb := qb.keep0 k1
    clear ya kA k1 qa xa0 xa1 xa2 xa3 fa0 fa1 fa2 fa3 xb0 xb1 xb2 xb3 fb0 fb1 fb2 fb3
    obtain ⟨xb0, xb1, xb2, xb3, fb0, fb1, fb2, fb3⟩ := qb.cells
    go_wp2_with fail
    refine yb.mono ?_
    rintro e w2 ⟨rfl, k2⟩
    have K2 := K1.trans k2
    clear yb k2 K1 qb xb0 xb1 xb2 xb3 fb0 fb1 fb2 fb3
    go_wp2
    go_ret2
    exact ⟨rfl, K2⟩
  rw [kBelow_yes h1 h2]
  rw [encK_fine13 h1] at ya
  rw [encK_fine13 h2] at yb
  clear h1 h2 oa ob ha hb
  generalize eClk a = TA at *
  generalize eClk b = TB at *
  have yr := fun (W : World) => rising6_any _ _ 2 [TA, TB] (by show 2 ≤ maxLen; unfold maxLen; omega) (texts_two10 W 9 TA TB)
  have el : [TA, TB].length = 2 := rfl
  rw [el] at yr
  cases hB : bl TA TB with
  | true =>
    rw [rise_yes hB] at yr
    clear el hB
    go_enter Try.func11, Try.ntmps11
    go_wp2_with fail
    generalize ((w.alloc (.cells #[.slice ao a.c.length ca, .bool a.d, .string a.x.a, .int .u64 (a.x.n : Int)] 27)).alloc (.cells #[.slice bo b.c.length cb, .bool b.d, .string b.x.a, .int .u64 (b.x.n : Int)] 27)) = W0 at *
    generalize w.heap.size = g at *
    refine ya.mono ?_
    rintro e w1 ⟨rfl, k1⟩
    have K1 := kA.trans k1
    have yb := yb _ K1
    replace qb := qb.keep0 k1
    clear ya kA k1 qa xa0 xa1 xa2 xa3 fa0 fa1 fa2 fa3 xb0 xb1 xb2 xb3 fb0 fb1 fb2 fb3
    obtain ⟨xb0, xb1, xb2, xb3, fb0, fb1, fb2, fb3⟩ := qb.cells
    go_wp2_with fail
    refine yb.mono ?_
    rintro e w2 ⟨rfl, k2⟩
    have K2 := K1.trans k2
    clear yb k2 K1 qb xb0 xb1 xb2 xb3 fb0 fb1 fb2 fb3
    have yr := yr w2
    have kR : Keep0 w2 (w2.alloc (.cells #[.string TA, .string TB] 9)) := (Keep.refl _ w2).alloc _
    have K3 := K2.trans kR
    clear kR
    go_wp2_with fail
    refine yr.mono ?_
    rintro e w3 ⟨rfl, k3⟩
    have K4 := K3.trans (keepN k3)
    clear yr k3 K3 K2
    go_wp2
    go_ret2
    exact ⟨rfl, K4⟩
  | false =>
    rw [rise_no hB] at yr
    clear el hB
    go_enter Try.func11, Try.ntmps11
    go_wp2_with fail
    generalize ((w.alloc (.cells #[.slice ao a.c.length ca, .bool a.d, .string a.x.a, .int .u64 (a.x.n : Int)] 27)).alloc (.cells #[.slice bo b.c.length cb, .bool b.d, .string b.x.a, .int .u64 (b.x.n : Int)] 27)) = W0 at *
    generalize w.heap.size = g at *
    refine ya.mono ?_
    rintro e w1 ⟨rfl, k1⟩
    have K1 := kA.trans k1
    have yb := yb _ K1
    replace qb := qb.keep0 k1
    clear ya kA k1 qa xa0 xa1 xa2 xa3 fa0 fa1 fa2 fa3 xb0 xb1 xb2 xb3 fb0 fb1 fb2 fb3
    obtain ⟨xb0, xb1, xb2, xb3, fb0, fb1, fb2, fb3⟩ := qb.cells
    go_wp2_with fail
    refine yb.mono ?_
    rintro e w2 ⟨rfl, k2⟩
    have K2 := K1.trans k2
    clear yb k2 K1 qb xb0 xb1 xb2 xb3 fb0 fb1 fb2 fb3
    have yr := yr w2
    have kR : Keep0 w2 (w2.alloc (.cells #[.string TA, .string TB] 9)) := (Keep.refl _ w2).alloc _
    have K3 := K2.trans kR
    clear kR
    go_wp2_with fail
    refine yr.mono ?_
    rintro e w3 ⟨rfl, k3⟩
    have K4 := K3.trans (keepN k3)
    clear yr k3 K3 K2
    go_wp2
    go_ret2
    exact ⟨rfl, K4⟩
/-- The landed package is as the laws ask. -/
theorem dcCode : DcCode where
  encode := encode13
  decode := fun w s hs => decode13 w s (by unfold maxLen; omega)
  below := below13
  take := fun h _ => take13 h
  put := fun ao cap l h ht hl hok hc hk hb hr => put13 ao cap l h ht hl hok hc hk hb hr
end Go.Proofs.Ytfahpnkliecppaa
