/-
  Contract of the document's own Decode of dotted clocks, proved over this seat's translation.
  Conditions: a text takes at most the greatest length.
-/
import Derived.Test.YtfahpnkliecppaaRefDcode2
namespace Go.Proofs.Ytfahpnkliecppaa
open Go.RowKit

/-- A clock, and an error, are answered. -/
def RClkE (p : Ck × Int) (w : World) (e : Ending) (w' : World) : Prop := ∃ ao cap, e = .returned (.tuple #[.agg #[.slice ao p.1.c.length cap, .bool p.1.d, .string p.1.x.a, .int .u64 (p.1.x.n : Int)], .int .i64 p.2]) ∧ EnsAt w' ao p.1.c ∧ (∀ g off m, ao = some ⟨g, off, m⟩ → w.heap.size ≤ g) ∧ Keep0 w w'
theorem RClkE.bare {p : Ck × Int} {w w' : World} {e : Ending} {E : Int} (hp : p = (zCk, E)) (h : e = .returned (.tuple #[.agg #[.slice none 0 0, .bool false, .string ⟨#[]⟩, .int .u64 0], .int .i64 E])) (h3 : Keep0 w w') : RClkE p w e w' := by
  subst hp
  exact ⟨none, 0, h, ens_nil _ _, (fun _ _ _ e => by cases e), h3⟩
theorem RClkE.mk {p : Ck × Int} {w w' : World} {e : Ending} {K : Ck} {ao : Option Addr} {cap : Nat} (hp : p = (K, 0)) (h : e = .returned (.tuple #[.agg #[.slice ao K.c.length cap, .bool K.d, .string K.x.a, .int .u64 (K.x.n : Int)], .int .i64 0])) (h1 : EnsAt w' ao K.c) (h2 : ∀ g off m, ao = some ⟨g, off, m⟩ → w.heap.size ≤ g) (h3 : Keep0 w w') : RClkE p w e w' := by
  subst hp
  exact ⟨ao, cap, h, h1, h2, h3⟩
set_option maxRecDepth 100000 in
set_option maxHeartbeats 4000000 in
theorem rdecode13 (w : World) (s : ByteArray) (hs : s.size ≤ maxLen) :
    Calls Try.prog 15 #[.string s] w (RClkE (decK s) w) := by
  have HE : Hid (∀ (W : World) (e : Ending) (E : Int), decK s = (zCk, E) → e = .returned (.tuple #[.agg #[.slice none 0 0, .bool false, .string ⟨#[]⟩, .int .u64 0], .int .i64 E]) → Keep0 w W → RClkE (decK s) w e W) := fun _ _ _ h1 h2 h3 => RClkE.bare h1 h2 h3
  have HM : Hid (∀ (W : World) (e : Ending) (K : Ck) (ao : Option Addr) (cap : Nat), decK s = (K, 0) → e = .returned (.tuple #[.agg #[.slice ao K.c.length cap, .bool K.d, .string K.x.a, .int .u64 (K.x.n : Int)], .int .i64 0]) → EnsAt W ao K.c → (∀ g off m, ao = some ⟨g, off, m⟩ → w.heap.size ≤ g) → Keep0 w W → RClkE (decK s) w e W) := fun _ _ _ _ _ h1 h2 h3 h4 h5 => RClkE.mk h1 h2 h3 h4 h5
  have kA : Keep0 w ((w.alloc (.cells #[.slice none 0 0, .bool false, .string ⟨#[]⟩, .int .u64 0] 27)).alloc (.cells #[.string s, .int .i64 0, .int .i64 0] 50)) := ((Keep.refl _ w).alloc _).alloc _
  have q2 : QAt ((w.alloc (.cells #[.slice none 0 0, .bool false, .string ⟨#[]⟩, .int .u64 0] 27)).alloc (.cells #[.string s, .int .i64 0, .int .i64 0] 50)) w.heap.size (.slice none 0 0) (.bool false) (.string ⟨#[]⟩) (.int .u64 0) := (QAt.new w 27 _ _ _ _).keep0 ((Keep.refl _ _).alloc _)
  have c0 : Cur ((w.alloc (.cells #[.slice none 0 0, .bool false, .string ⟨#[]⟩, .int .u64 0] 27)).alloc (.cells #[.string s, .int .i64 0, .int .i64 0] 50)) (w.heap.size + 1) s 0 0 := by
    have := Cur.new (w.alloc (.cells #[.slice none 0 0, .bool false, .string ⟨#[]⟩, .int .u64 0] 27)) s 50 hs
    rw [World.size_alloc] at this
    exact this
  have z1 : ((w.alloc (.cells #[.slice none 0 0, .bool false, .string ⟨#[]⟩, .int .u64 0] 27)).alloc (.cells #[.string s, .int .i64 0, .int .i64 0] 50)).heap.size = w.heap.size + 2 := by rw [World.size_alloc, World.size_alloc]
  have yt := rtake13 c0
  rw [rX_yes] at yt
  have HD : Hid (if cEnd s (rClk s 0).2.1 (rClk s 0).2.2 = 0 then decK s = ((rClk s 0).1, 0) else decK s = (zCk, cEnd s (rClk s 0).2.1 (rClk s 0).2.2)) := by
    show if _ then _ else _
    unfold decK
    split <;> rfl
  have ye := fun (W : World) (g : Nat) (h : Cur W g s (rClk s 0).2.1 (rClk s 0).2.2) => rend_any h
  generalize hE : cEnd s (rClk s 0).2.1 (rClk s 0).2.2 = E at *
  obtain ⟨RV, hRV⟩ : ∃ RV, rClk s 0 = RV := ⟨_, rfl⟩
  rw [hRV] at yt ye HD
  clear hE hRV c0
  obtain ⟨KK, A, X⟩ := RV
  have yt : Calls Try.prog 21 #[ptr (w.heap.size + 1)] ((w.alloc (.cells #[.slice none 0 0, .bool false, .string ⟨#[]⟩, .int .u64 0] 27)).alloc (.cells #[.string s, .int .i64 0, .int .i64 0] 50)) (fun e w' => ∃ ao cap, e = .returned (.agg #[.slice ao KK.c.length cap, .bool KK.d, .string KK.x.a, .int .u64 (KK.x.n : Int)]) ∧ Cur w' (w.heap.size + 1) s A X ∧ EnsAt w' ao KK.c ∧ (∀ g off m, ao = some ⟨g, off, m⟩ → ((w.alloc (.cells #[.slice none 0 0, .bool false, .string ⟨#[]⟩, .int .u64 0] 27)).alloc (.cells #[.string s, .int .i64 0, .int .i64 0] 50)).heap.size ≤ g) ∧ Keep1 (w.heap.size + 1) ((w.alloc (.cells #[.slice none 0 0, .bool false, .string ⟨#[]⟩, .int .u64 0] 27)).alloc (.cells #[.string s, .int .i64 0, .int .i64 0] 50)) w') := yt
  have ye : ∀ (W : World) (g : Nat), Cur W g s A X → Calls Try.prog 33 #[ptr g] W fun e w' => e = .returned (.int .i64 E) ∧ Cur w' g s A E ∧ Keep1 g W w' := ye
  have HD : Hid (if E = 0 then decK s = (KK, 0) else decK s = (zCk, E)) := HD
  go_enter Try.func15, Try.ntmps15
  go_wp2_with fail
  generalize ((w.alloc (.cells #[.slice none 0 0, .bool false, .string ⟨#[]⟩, .int .u64 0] 27)).alloc (.cells #[.string s, .int .i64 0, .int .i64 0] 50)) = WB at *
  obtain ⟨g2, hg2⟩ : ∃ g2, w.heap.size = g2 := ⟨_, rfl⟩
  rw [hg2] at q2 z1 yt ⊢
  obtain ⟨gc, hgc⟩ : ∃ gc, g2 + 1 = gc := ⟨_, rfl⟩
  rw [hgc] at yt ⊢
  have n2 : g2 ≠ gc := by omega
  have HG : Hid (w.heap.size = g2 ∧ g2 + 1 = gc) := ⟨hg2, hgc⟩
  refine yt.mono ?_
  rintro e w1 ⟨vo, vc, rfl, c1, hE1, hF1, k1⟩
  have K1 : Keep0 w w1 := kA.step k1 (fun i hi hh => by omega)
  have q2a := q2.keep k1 n2
  have HF : Hid (∀ g off m, vo = some ⟨g, off, m⟩ → g2 + 2 ≤ g) := fun g off m e => by have := hF1 g off m e; omega
  clear yt k1 kA q2 hF1 z1 hg2 hgc hs
  have kB : Keep0 w1 (w1.alloc (.cells #[.slice vo KK.c.length vc, .bool KK.d, .string KK.x.a, .int .u64 (KK.x.n : Int)] 27)) := (Keep.refl _ w1).alloc _
  have q3 := QAt.new w1 27 (.slice vo KK.c.length vc) (.bool KK.d) (.string KK.x.a) (.int .u64 (KK.x.n : Int))
  have c2 := c1.keep0 kB
  have q2b := q2a.keep0 kB
  have hE2 := hE1.keep0 kB
  have K2 := K1.trans kB
  have hlt := c1.lt
  have ye := ye _ _ c2
  clear kB c1 q2a hE1 K1
  go_wp2_with fail
  generalize (w1.alloc (.cells #[.slice vo KK.c.length vc, .bool KK.d, .string KK.x.a, .int .u64 (KK.x.n : Int)] 27)) = W2 at *
  obtain ⟨g3, hg3⟩ : ∃ g3, w1.heap.size = g3 := ⟨_, rfl⟩
  rw [hg3] at q3 hlt ⊢
  have n3 : g3 ≠ gc := by omega
  refine ye.mono ?_
  rintro e w3 ⟨rfl, c3, k3⟩
  have K3 : Keep0 w w3 := K2.step k3 (fun i hi hh => by have := HG.out; omega)
  have q2c := q2b.keep k3 n2
  have q3c := q3.keep k3 n3
  have hE3 := hE2.keep k3 (fun g off m e hh => by have := HF.out g off m e; have := HG.out; omega)
  clear ye k3 K2 q2b q3 hE2 c2 c3 hg3 hlt
  obtain ⟨u0, u1, u2, u3, f0, f1, f2, f3⟩ := q2c.cells
  obtain ⟨t0, t1, t2, t3, h0, h1, h2, h3⟩ := q3c.cells
  by_cases hz : E = 0
  · have hd := HD.out
    rw [if_pos hz] at hd
    have HV : Hid (decK s = (KK, 0)) := hd
    subst hz
    clear hd HD HE
    go_wp2
    refine bodyPost_ret (retCk2 rfl _ _ _ rfl (q2c.put (.slice vo KK.c.length vc) (.bool KK.d) (.string KK.x.a) (.int .u64 (KK.x.n : Int)))) rfl ?_
    exact HM.out _ _ KK vo vc HV.out rfl (hE3.keep (put4_keep _ _ _ _ _ _) (fun g off m e hh => by have := HF.out g off m e; omega)) (fun g off m e => by have := HF.out g off m e; have := HG.out; omega) (K3.step (put4_keep _ _ _ _ _ _) (fun i hi hh => by have := HG.out; omega))
  · have hd := HD.out
    rw [if_neg hz] at hd
    have HV : Hid (decK s = (zCk, E)) := hd
    have e0 : (E != 0) = true := by simpa using hz
    clear hd HD HM hz
    go_wp2
    refine bodyPost_ret (retCk2 rfl _ _ _ rfl (q2c.put (.slice none 0 0) (.bool false) (.string ⟨#[]⟩) (.int .u64 0))) rfl ?_
    exact HE.out _ _ _ HV.out rfl (K3.step (put4_keep _ _ _ _ _ _) (fun i hi hh => by have := HG.out; omega))
end Go.Proofs.Ytfahpnkliecppaa
