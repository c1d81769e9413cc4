/-
  What this seat's claims lean on of the texts RefObj6, RefObj7, Open10, Open12, Open14, Open15, Open16, RefSib4, Law15, Law16.
  Conditions: as each theorem states.
-/
import Derived.WalkKit
import Derived.ProofKit
import Derived.Below
import Derived.Deep.Draws
import Derived.Deep.RegionHeld
import Derived.Test.YteonkfedgopdiaaGreatChecked
import Derived.OpenShut
import Derived.ShutString
import Derived.WalkSpells
import Derived.WalkLawsBesides
import Derived.Deep.QuietTactic
import Derived.BigQuiet
import Derived.Laws.Bits64b
import Derived.PlainAid
import Derived.Lib.AppendStr
import Derived.Deep.AppendLies
import Derived.Laws.IdiomStrings
import Derived.Laws.BytesArg
import Derived.Deep.RegionWith
import Derived.Laws.AppendOwn
import Derived.Deep.DeepAppendWide
import Derived.Deep.Upon
import Derived.Maps.AppendAt
import Derived.Laws.Rows
import Derived.Deep.Slices
import Derived.Deep.CutRange
import Derived.Test.YteonkfedgopdiaaGreatZ25
import Derived.Deep.RegionLaw
import Derived.Test.YteonkfedgopdiaaGreatZ10
import Derived.Test.YteonkfedgopdiaaGreatZ17
import Derived.Test.YteonkfedgopdiaaGreatZ13
import Derived.Test.YteonkfedgopdiaaGreatZ12
import Derived.Test.YteonkfedgopdiaaGreatZ19
import Derived.Test.YteonkfedgopdiaaGreatZ24
import Derived.Test.YteonkfedgopdiaaGreatZ21
import Derived.Test.YteonkfedgopdiaaGreatZ2
import Derived.Test.YteonkfedgopdiaaGreatZ22
namespace Go.Proofs.YteonkfedgopdiaaGreat
open Go.RowKit
theorem RObE.mk {p : Ob × Int} {w w' : World} {e : Ending} {K : ByteArray} {L : List Pl} {ao : Option Addr} {cap : Nat} (hp : p = (⟨K, L.map Pl.x⟩, 0)) (h : e = .returned (.tuple #[.agg #[.string K, .slice ao L.length cap], .int .i64 0])) (h2 : NewL w.heap.size w' ao L) (hcp : L.length ≤ cap ∧ cap ≤ maxLen) (h3 : Keep0 w w') : RObE p w e w' := by
  subst hp
  exact ⟨ao, cap, L, by rw [h]; show _ = Ending.returned (.tuple #[.agg #[.string K, .slice ao (L.map Pl.x).length cap], _]); rw [List.length_map], rfl, h2, hcp, h3⟩
set_option maxRecDepth 100000 in
set_option maxHeartbeats 8000000 in
theorem rdecode16 (w : World) (s : ByteArray) (hs : s.size ≤ maxLen) :
    Calls Tryz.prog 17 #[.string s] w (RObE (decO s) w) := by
  have HE : Hid (∀ (W : World) (e : Ending) (E : Int), decO s = (zOb, E) → e = .returned (.tuple #[.agg #[.string ⟨#[]⟩, .slice none 0 0], .int .i64 E]) → Keep0 w W → RObE (decO s) w e W) := fun _ _ _ h1 h2 h3 => RObE.bare h1 h2 h3
  have HM : Hid (∀ (W : World) (e : Ending) (K : ByteArray) (L : List Pl) (ao : Option Addr) (cap : Nat), decO s = (⟨K, L.map Pl.x⟩, 0) → e = .returned (.tuple #[.agg #[.string K, .slice ao L.length cap], .int .i64 0]) → NewL w.heap.size W ao L → (L.length ≤ cap ∧ cap ≤ maxLen) → Keep0 w W → RObE (decO s) w e W) := fun _ _ _ _ _ _ h1 h2 h3 h3' h4 => RObE.mk h1 h2 h3 h3' h4
  have kA : Keep0 w ((w.alloc (.cells #[.string ⟨#[]⟩, .slice none 0 0] 24)).alloc (.cells #[.string s, .int .i64 0, .int .i64 0] 55)) := ((Keep.refl _ w).alloc _).alloc _
  have q2 : DAt ((w.alloc (.cells #[.string ⟨#[]⟩, .slice none 0 0] 24)).alloc (.cells #[.string s, .int .i64 0, .int .i64 0] 55)) w.heap.size (.string ⟨#[]⟩) (.slice none 0 0) := (DAt.new w 24 (.string ⟨#[]⟩) (.slice none 0 0)).keep0 ((Keep.refl _ _).alloc _)
  have c0 := Cur.new (w.alloc (.cells #[.string ⟨#[]⟩, .slice none 0 0] 24)) s 55 hs
  rw [World.size_alloc] at c0
  have z1 : ((w.alloc (.cells #[.string ⟨#[]⟩, .slice none 0 0] 24)).alloc (.cells #[.string s, .int .i64 0, .int .i64 0] 55)).heap.size = w.heap.size + 2 := by rw [World.size_alloc, World.size_alloc]
  have yt := rtake16 c0
  rw [rX_yes] at yt
  have HD : Hid (if cEnd s (rOb s 0).2.1 (rOb s 0).2.2 = 0 then decO s = ((rOb s 0).1, 0) else decO s = (zOb, cEnd s (rOb s 0).2.1 (rOb s 0).2.2)) := by
    show if _ then _ else _
    unfold decO dec
    split <;> rfl
  have ye := fun (W : World) (g : Nat) (h : Cur W g s (rOb s 0).2.1 (rOb s 0).2.2) => rend_any h
  generalize hE : cEnd s (rOb s 0).2.1 (rOb s 0).2.2 = E at *
  obtain ⟨⟨OO, A, X⟩, hRV⟩ : ∃ RV, rOb s 0 = RV := ⟨_, rfl⟩
  rw [hRV] at yt ye HD
  clear hE hRV c0
  have ye : ∀ (W : World) (g : Nat), Cur W g s A X → Calls Tryz.prog 45 #[ptr g] W fun e w' => e = .returned (.int .i64 E) ∧ Cur w' g s A E ∧ Keep1 g W w' := ye
  have HD : Hid (if E = 0 then decO s = (OO, 0) else decO s = (zOb, E)) := HD
  go_enter Tryz.func17, Tryz.ntmps17
  go_wp2_with fail
  generalize ((w.alloc (.cells #[.string ⟨#[]⟩, .slice none 0 0] 24)).alloc (.cells #[.string s, .int .i64 0, .int .i64 0] 55)) = WB at *
  obtain ⟨g2, hg2⟩ : ∃ g2, w.heap.size = g2 := ⟨_, rfl⟩
  rw [hg2] at q2 z1 yt ⊢
  obtain ⟨gc, hgc⟩ : ∃ gc, g2 + 1 = gc := ⟨_, rfl⟩
  rw [hgc] at yt ⊢
  have n2 : g2 ≠ gc := by omega
  have HG : Hid (w.heap.size = g2 ∧ g2 + 1 = gc) := ⟨hg2, hgc⟩
  refine yt.mono ?_
  rintro e w1 ⟨ao, cap, L, rfl, hL, c1, hN, hcp, k1⟩
  obtain ⟨K, l⟩ := OO
  have hL : L.map Pl.x = l := hL
  subst hL
  replace c1 : Cur w1 gc s A X := c1
  have el : (L.map Pl.x).length = L.length := List.length_map ..
  dsimp only
  rw [el]
  have HCP : Hid (L.length ≤ cap ∧ cap ≤ maxLen) := hcp
  clear hcp
  have K1 : Keep0 w w1 := kA.step k1 (fun i hi hh => by omega)
  have q2a := q2.keep k1 n2
  have HNL : Hid (NewL (g2 + 2) w1 ao L) := by
    have h := hN
    rw [z1] at h
    exact h
  clear yt k1 kA q2 hN z1 hg2 hgc hs el
  have kB : Keep0 w1 (w1.alloc (.cells #[.string K, .slice ao L.length cap] 24)) := (Keep.refl _ w1).alloc _
  have q3 := DAt.new w1 24 (.string K) (.slice ao L.length cap)
  have c2 := c1.keep0 kB
  have q2b := q2a.keep0 kB
  have HNL2 : Hid (NewL (g2 + 2) (w1.alloc (.cells #[.string K, .slice ao L.length cap] 24)) ao L) := HNL.out.keep kB (fun _ _ f => f)
  have K2 := K1.trans kB
  have hlt := c1.lt
  have ye := ye _ _ c2
  clear kB c1 q2a HNL K1
  go_wp2_with fail
  generalize (w1.alloc (.cells #[.string K, .slice ao L.length cap] 24)) = W2 at *
  obtain ⟨g3, hg3⟩ : ∃ g3, w1.heap.size = g3 := ⟨_, rfl⟩
  rw [hg3] at q3 hlt ⊢
  have n3 : g3 ≠ gc := by omega
  refine ye.mono ?_
  rintro e w3 ⟨rfl, c3, k3⟩
  have K3 : Keep0 w w3 := K2.step k3 (fun i hi hh => by have := HG.out; omega)
  have q2c := q2b.keep k3 n2
  have q3c := q3.keep k3 n3
  have HNL3 : Hid (NewL (g2 + 2) w3 ao L) := HNL2.out.keep k3 (fun g hg hh => by have := HG.out; omega)
  clear ye k3 K2 q2b q3 HNL2 c2 c3 hg3 hlt
  obtain ⟨u0, u1, f0, f1⟩ := q2c.cells
  obtain ⟨t0, t1, h0, h1⟩ := q3c.cells
  by_cases hz : E = 0
  · have hd := HD.out
    rw [if_pos hz] at hd
    have HV : Hid (decO s = (⟨K, L.map Pl.x⟩, 0)) := hd
    subst hz
    clear hd HD HE
    go_wp2
    refine bodyPost_ret (retOb2 rfl _ _ _ rfl (q2c.put (.string K) (.slice ao L.length cap))) rfl ?_
    exact HM.out _ _ K L ao cap HV.out rfl ((HNL3.out.keep (put2_keep _ _ _ _) (fun g hg hh => by omega)).lower (by have := HG.out; omega)) HCP.out (K3.step (put2_keep _ _ _ _) (fun i hi hh => by have := HG.out; omega))
  · have hd := HD.out
    rw [if_neg hz] at hd
    have HV : Hid (decO s = (zOb, E)) := hd
    have e0 : (E != 0) = true := by simpa using hz
    clear hd HD HM hz
    go_wp2
    refine bodyPost_ret (retOb2 rfl _ _ _ rfl (q2c.put (.string ⟨#[]⟩) (.slice none 0 0))) rfl ?_
    exact HE.out _ _ _ HV.out rfl (K3.step (put2_keep _ _ _ _) (fun i hi hh => by have := HG.out; omega))
end Go.Proofs.YteonkfedgopdiaaGreat
namespace Go.Proofs.YteonkfedgopdiaaGreat
open Go.RowKit
def RObS (p : Ob × Int) (w : World) (e : Ending) (w' : World) : Prop := ∃ ao cap L, e = .returned (.tuple #[.agg #[.string p.1.key, .slice ao p.1.l.length cap], .int .i64 p.2]) ∧ L.map Pl.x = p.1.l ∧ PlsAt w' ao L ∧ (∀ g off m, ao = some ⟨g, off, m⟩ → w.heap.size ≤ g) ∧ (L.length ≤ cap ∧ cap ≤ maxLen) ∧ Keep0 w w'
theorem RObS.bare {p : Ob × Int} {w w' : World} {e : Ending} {E : Int} (hp : p = (zOb, E)) (h : e = .returned (.tuple #[.agg #[.string ⟨#[]⟩, .slice none 0 0], .int .i64 E])) (h3 : Keep0 w w') : RObS p w e w' := by
  subst hp
  exact ⟨none, 0, [], h, rfl, PlsAt.nil _ _, (fun _ _ _ e => by cases e), ⟨Nat.le_refl _, Nat.zero_le _⟩, h3⟩
theorem RObS.mk {p : Ob × Int} {w w' : World} {e : Ending} {K : ByteArray} {L : List Pl} {ao : Option Addr} {cap : Nat} (hp : p = (⟨K, L.map Pl.x⟩, 0)) (h : e = .returned (.tuple #[.agg #[.string K, .slice ao L.length cap], .int .i64 0])) (h2 : PlsAt w' ao L) (h4 : ∀ g off m, ao = some ⟨g, off, m⟩ → w.heap.size ≤ g) (hcp : L.length ≤ cap ∧ cap ≤ maxLen) (h3 : Keep0 w w') : RObS p w e w' := by
  subst hp
  exact ⟨ao, cap, L, by rw [h]; show _ = Ending.returned (.tuple #[.agg #[.string K, .slice ao (L.map Pl.x).length cap], _]); rw [List.length_map], rfl, h2, h4, hcp, h3⟩
def Low (L : List Pl) (k i : Nat) : Prop := ∀ q (_ : q < L.length) (_ : k < L.length), q < i → bl (kb L[q].x) (kb L[k].x) = false
theorem Low.same {L : List Pl} {k i : Nat} (h : Low L k i) (hi : i < L.length) (hk : k < L.length) (hb : bl (kb L[i].x) (kb L[k].x) = false) : Low L k (i + 1) := by
  intro q h1 h2 h3
  by_cases e : q = i
  · subst e; exact hb
  · exact h q h1 h2 (by omega)
end Go.Proofs.YteonkfedgopdiaaGreat
namespace Go.Proofs.YteonkfedgopdiaaGreat
open Go.RowKit Go.WideShapes Go.ChangeShapes
set_option maxRecDepth 100000 in
theorem rd_entry {H : Type} {enc : TypeId × Value → H} {w : World} {cs : List Value} (h : Rd enc w 39 cs) : ∃ x : En, cs = x.cells ∧ x.a.size ≤ maxLen ∧ x.n < 18446744073709551616 := by
  obtain ⟨hl, hf⟩ := rd_struct Tryz.underlying39 h
  have hl2 : cs.length = 2 := hl.trans (by kernel_rfl)
  match cs, hl2 with
  | [v0, v1], _ =>
    have g0 := hf 0 _ rfl
    have g1 := hf 1 _ rfl
    have c5 : Tryz.prog.cellsOf 37 = 1 := by kernel_rfl
    have cs' : Tryz.prog.cellsOf 9 = 1 := by kernel_rfl
    simp [c5, cs'] at g0 g1
    obtain ⟨s, e0, hs⟩ := rd_string Tryz.underlying9 g0
    obtain ⟨n1, e1, w1⟩ := rd_int Tryz.underlying37 g1
    have hb := bounds_u64 w1
    simp at e0 e1
    subst e0 e1
    refine ⟨⟨s, n1.toNat⟩, ?_, hs, by show n1.toNat < _; omega⟩
    show [Value.string s, Value.int .u64 n1] = [Value.string s, Value.int .u64 ((n1.toNat : Nat) : Int)]
    rw [Int.toNat_of_nonneg hb.1]
set_option maxRecDepth 100000 in
theorem rd_ens {H : Type} {enc : TypeId × Value → H} {w : World} {cs : List Value} (h : Rd enc w 36 cs) :
    ∃ (ao : Option Addr) (cap : Nat) (l : List En), cs = [.slice ao l.length cap] ∧ Fits l ∧ EnsAt w ao l := by
  obtain ⟨ao, cap, es, h1, h2, h3, h4⟩ := rd_slice Tryz.underlying36 (by kernel_rfl : Tryz.prog.cellsOf 39 = 2) (by decide) h
  have hl : ∀ es : List (List Value), (∀ x ∈ es, ∃ f : En, x = f.cells ∧ f.a.size ≤ maxLen ∧ f.n < 18446744073709551616) → ∃ l : List En, es = l.map En.cells ∧ ∀ f ∈ l, f.a.size ≤ maxLen ∧ f.n < 18446744073709551616 := by
    intro es
    induction es with
    | nil => exact fun _ => ⟨[], rfl, by simp⟩
    | cons x es ih =>
      intro h
      obtain ⟨a, rfl, ha⟩ := h x (by simp)
      obtain ⟨l, rfl, hl⟩ := ih (fun y hy => h y (by simp [hy]))
      exact ⟨a :: l, rfl, by simp; exact ⟨ha, hl⟩⟩
  obtain ⟨l, rfl, hok⟩ := hl es (fun x hx => rd_entry (h4 x hx))
  refine ⟨ao, cap, l, by simpa using h1, ⟨by simpa using h2, hok⟩, fun i hi => ?_⟩
  obtain ⟨b, off, e1, e2, e3⟩ := h3.cell i (by simpa using hi)
  refine ⟨b, off, e1, ?_, ?_⟩
  · simpa [En.cells] using e3 0 (by simp [En.cells])
  · simpa [En.cells] using e3 1 (by simp [En.cells])
end Go.Proofs.YteonkfedgopdiaaGreat
namespace Go.Proofs.YteonkfedgopdiaaGreat
open Go.RowKit Go.WideShapes Go.ChangeShapes
theorem rd_bool {H : Type} {enc : TypeId × Value → H} {w : World} {t : TypeId} {cs : List Value} (ht : Tryz.prog.underlying t = some .bool) (h : Rd enc w t cs) : ∃ b, cs = [.bool b] := by
  obtain ⟨fuel, x, h⟩ := h
  obtain ⟨n, h1, _⟩ := DataW.trod_bool ht h
  exact ⟨n, h1⟩
structure Clk (w : World) where
  ao : Option Addr
  cap : Nat
  k : Ck
  fits : FitsK k
  at_ : EnsAt w ao k.c
def Clk.cs {w : World} (c : Clk w) : List Value := [.slice c.ao c.k.c.length c.cap, .bool c.k.d, .string c.k.x.a, .int .u64 (c.k.x.n : Int)]
set_option maxRecDepth 100000 in
theorem rd_clock {H : Type} {enc : TypeId × Value → H} {w : World} {cs : List Value} (h : Rd enc w 41 cs) : ∃ c : Clk w, cs = c.cs := by
  obtain ⟨hl, hf⟩ := rd_struct Tryz.underlying41 h
  have hl4 : cs.length = 4 := hl.trans (by kernel_rfl)
  match cs, hl4 with
  | [v0, v1, v2, v3], _ =>
    have g0 := hf 0 _ rfl
    have g1 := hf 1 _ rfl
    have g2 := hf 2 _ rfl
    have c0 : Tryz.prog.cellsOf 36 = 1 := by kernel_rfl
    have c1 : Tryz.prog.cellsOf 4 = 1 := by kernel_rfl
    have c2 : Tryz.prog.cellsOf 39 = 2 := by kernel_rfl
    simp [c0, c1, c2] at g0 g1 g2
    obtain ⟨ao, cap, l, e0, hfl, ha⟩ := rd_ens g0
    obtain ⟨d, e1⟩ := rd_bool Tryz.underlying4 g1
    obtain ⟨x, e2, hx, hn⟩ := rd_entry g2
    simp [En.cells] at e0 e1 e2
    refine ⟨⟨ao, cap, ⟨l, d, x⟩, ⟨hfl, hx, hn⟩, ha⟩, ?_⟩
    show [v0, v1, v2, v3] = [Value.slice ao l.length cap, .bool d, .string x.a, .int .u64 (x.n : Int)]
    rw [e0, e1, e2.1, e2.2]
end Go.Proofs.YteonkfedgopdiaaGreat
namespace Go.Proofs.YteonkfedgopdiaaGreat
open Go.RowKit Go.WideShapes Go.ChangeShapes
set_option maxRecDepth 100000 in
theorem rd_pair {H : Type} {enc : TypeId × Value → H} {w : World} {cs : List Value} (h : Rd enc w 46 cs) : ∃ x : Pr, cs = x.cells ∧ x.n.size ≤ maxLen ∧ x.v.size ≤ maxLen := by
  obtain ⟨hl, hf⟩ := rd_struct Tryz.underlying46 h
  have hl2 : cs.length = 2 := hl.trans (by kernel_rfl)
  match cs, hl2 with
  | [v0, v1], _ =>
    have g0 := hf 0 _ rfl
    have g1 := hf 1 _ rfl
    have cs' : Tryz.prog.cellsOf 9 = 1 := by kernel_rfl
    simp [cs'] at g0 g1
    obtain ⟨s, e0, hs⟩ := rd_string Tryz.underlying9 g0
    obtain ⟨t, e1, ht⟩ := rd_string Tryz.underlying9 g1
    simp at e0 e1
    subst e0 e1
    exact ⟨⟨s, t⟩, rfl, hs, ht⟩
set_option maxRecDepth 100000 in
theorem rd_prs {H : Type} {enc : TypeId × Value → H} {w : World} {cs : List Value} (h : Rd enc w 42 cs) :
    ∃ (ao : Option Addr) (cap : Nat) (l : List Pr), cs = [.slice ao l.length cap] ∧ FitsP l ∧ PrsAt w ao l := by
  obtain ⟨ao, cap, es, h1, h2, h3, h4⟩ := rd_slice Tryz.underlying42 (by kernel_rfl : Tryz.prog.cellsOf 46 = 2) (by decide) h
  have hl : ∀ es : List (List Value), (∀ x ∈ es, ∃ f : Pr, x = f.cells ∧ f.n.size ≤ maxLen ∧ f.v.size ≤ maxLen) → ∃ l : List Pr, es = l.map Pr.cells ∧ ∀ f ∈ l, f.n.size ≤ maxLen ∧ f.v.size ≤ maxLen := by
    intro es
    induction es with
    | nil => exact fun _ => ⟨[], rfl, by simp⟩
    | cons x es ih =>
      intro h
      obtain ⟨a, rfl, ha⟩ := h x (by simp)
      obtain ⟨l, rfl, hl⟩ := ih (fun y hy => h y (by simp [hy]))
      exact ⟨a :: l, rfl, by simp; exact ⟨ha, hl⟩⟩
  obtain ⟨l, rfl, hok⟩ := hl es (fun x hx => rd_pair (h4 x hx))
  refine ⟨ao, cap, l, by simpa using h1, ⟨by simpa using h2, hok⟩, fun i hi => ?_⟩
  obtain ⟨b, off, e1, e2, e3⟩ := h3.cell i (by simpa using hi)
  refine ⟨b, off, e1, ?_, ?_⟩
  · simpa [Pr.cells] using e3 0 (by simp [Pr.cells])
  · simpa [Pr.cells] using e3 1 (by simp [Pr.cells])
theorem rd_cap {H : Type} {enc : TypeId × Value → H} {w : World} {t e : TypeId} {ao : Option Addr} {len cap : Nat} (ht : Tryz.prog.underlying t = some (.slice e)) (h : Rd enc w t [.slice ao len cap]) : len ≤ cap ∧ cap ≤ maxLen := by
  obtain ⟨fuel, x, h⟩ := h
  rcases Go.Deep.open_slice ht h with ⟨e1, _⟩ | ⟨a, l, c, m, n, D, Pl, e1, _, hl, hm, _⟩
  · cases e1
    exact ⟨Nat.le_refl _, Nat.zero_le _⟩
  · cases e1
    exact ⟨hl, hm⟩
end Go.Proofs.YteonkfedgopdiaaGreat
namespace Go.Proofs.YteonkfedgopdiaaGreat
open Go.RowKit Go.WideShapes Go.ChangeShapes
structure Sbl (w : World) where
  vo : Option Addr
  vc : Nat
  po : Option Addr
  pc : Nat
  x : Sb
  fits : FitsS x
  at_ : SibIn w vo po pc x
def Sbl.cs {w : World} (c : Sbl w) : List Value := [.slice c.vo c.x.k.c.length c.vc, .bool c.x.k.d, .string c.x.k.x.a, .int .u64 (c.x.k.x.n : Int), .slice c.po c.x.m.length c.pc, .bool c.x.d, .string c.x.v]
set_option maxRecDepth 100000 in
theorem rd_sib {H : Type} {enc : TypeId × Value → H} {w : World} {cs : List Value} (h : Rd enc w 44 cs) : ∃ c : Sbl w, cs = c.cs := by
  obtain ⟨hl, hf⟩ := rd_struct Tryz.underlying44 h
  have hl7 : cs.length = 7 := hl.trans (by kernel_rfl)
  match cs, hl7 with
  | [v0, v1, v2, v3, v4, v5, v6], _ =>
    have g0 := hf 0 _ rfl
    have g1 := hf 1 _ rfl
    have g2 := hf 2 _ rfl
    have g3 := hf 3 _ rfl
    have c0 : Tryz.prog.cellsOf 41 = 4 := by kernel_rfl
    have c1 : Tryz.prog.cellsOf 42 = 1 := by kernel_rfl
    have c2 : Tryz.prog.cellsOf 4 = 1 := by kernel_rfl
    have c3 : Tryz.prog.cellsOf 9 = 1 := by kernel_rfl
    simp [c0, c1, c2, c3] at g0 g1 g2 g3
    obtain ⟨c, e0⟩ := rd_clock g0
    obtain ⟨po, pc, l, e1, hfl, ha⟩ := rd_prs g1
    have hcp : CapP l pc := by rw [e1] at g1; exact rd_cap Tryz.underlying42 g1
    obtain ⟨d, e2⟩ := rd_bool Tryz.underlying4 g2
    obtain ⟨v, e3, hv⟩ := rd_string Tryz.underlying9 g3
    simp [Clk.cs] at e0 e1 e2 e3
    refine ⟨⟨c.ao, c.cap, po, pc, ⟨c.k, l, d, v⟩, ⟨c.fits, hfl, hv⟩, ⟨c.at_, ha, hcp⟩⟩, ?_⟩
    show [v0, v1, v2, v3, v4, v5, v6] = [Value.slice c.ao c.k.c.length c.cap, .bool c.k.d, .string c.k.x.a, .int .u64 (c.k.x.n : Int), .slice po l.length pc, .bool d, .string v]
    rw [e0.1, e0.2.1, e0.2.2.1, e0.2.2.2, e1, e2, e3]
end Go.Proofs.YteonkfedgopdiaaGreat
namespace Go.Proofs.YteonkfedgopdiaaGreat
open Go.RowKit Go.WideShapes Go.ChangeShapes
set_option maxRecDepth 100000 in
theorem rd_sibs {H : Type} {enc : TypeId × Value → H} {w : World} {cs : List Value} (h : Rd enc w 22 cs) :
    ∃ (ao : Option Addr) (cap : Nat) (l : List Sb), cs = [.slice ao l.length cap] ∧ l.length ≤ maxLen ∧ (∀ x ∈ l, FitsS x) ∧ SibsAt w ao l := by
  obtain ⟨ao, cap, es, h1, h2, h3, h4⟩ := rd_slice Tryz.underlying22 (by kernel_rfl : Tryz.prog.cellsOf 44 = 7) (by decide) h
  have hl : ∀ es : List (List Value), (∀ x ∈ es, ∃ c : Sbl w, x = c.cs) → ∃ l : List (Sbl w), es = l.map Sbl.cs := by
    intro es
    induction es with
    | nil => exact fun _ => ⟨[], rfl⟩
    | cons x es ih =>
      intro h
      obtain ⟨a, rfl⟩ := h x (by simp)
      obtain ⟨l, rfl⟩ := ih (fun y hy => h y (by simp [hy]))
      exact ⟨a :: l, rfl⟩
  obtain ⟨l, rfl⟩ := hl es (fun x hx => rd_sib (h4 x hx))
  refine ⟨ao, cap, l.map Sbl.x, by simpa using h1, by rw [List.length_map]; simpa using h2, ?_, fun i hi => ?_⟩
  · intro k hk
    obtain ⟨c, _, rfl⟩ := List.mem_map.1 hk
    exact c.fits
  · have hi' : i < l.length := by simpa using hi
    obtain ⟨b, off, e1, e2, e3⟩ := h3.cell i (by simpa using hi')
    refine ⟨b, off, l[i].vo, l[i].vc, l[i].po, l[i].pc, e1, ?_, ?_⟩
    · rw [List.getElem_map]
      refine ⟨?_, ?_, ?_, ?_, ?_, ?_, ?_⟩
      · simpa [Sbl.cs] using e3 0 (by simp [Sbl.cs])
      · simpa [Sbl.cs] using e3 1 (by simp [Sbl.cs])
      · simpa [Sbl.cs] using e3 2 (by simp [Sbl.cs])
      · simpa [Sbl.cs] using e3 3 (by simp [Sbl.cs])
      · simpa [Sbl.cs] using e3 4 (by simp [Sbl.cs])
      · simpa [Sbl.cs] using e3 5 (by simp [Sbl.cs])
      · simpa [Sbl.cs] using e3 6 (by simp [Sbl.cs])
    · rw [List.getElem_map]
      exact l[i].at_
structure Obl (w : World) where
  ao : Option Addr
  cap : Nat
  o : Ob
  fits : FitsO o
  at_ : SibsAt w ao o.l
  room : o.l.length ≤ cap ∧ cap ≤ maxLen
def Obl.cs {w : World} (c : Obl w) : List Value := [.string c.o.key, .slice c.ao c.o.l.length c.cap]
set_option maxRecDepth 100000 in
theorem rd_ob {H : Type} {enc : TypeId × Value → H} {w : World} {cs : List Value} (h : Rd enc w 24 cs) : ∃ c : Obl w, cs = c.cs := by
  obtain ⟨hl, hf⟩ := rd_struct Tryz.underlying24 h
  have hl2 : cs.length = 2 := hl.trans (by kernel_rfl)
  match cs, hl2 with
  | [v0, v1], _ =>
    have g0 := hf 0 _ rfl
    have g1 := hf 1 _ rfl
    have c0 : Tryz.prog.cellsOf 9 = 1 := by kernel_rfl
    have c1 : Tryz.prog.cellsOf 22 = 1 := by kernel_rfl
    simp [c0, c1] at g0 g1
    obtain ⟨k, e0, hk⟩ := rd_string Tryz.underlying9 g0
    obtain ⟨ao, cap, l, e1, hl1, hfl, ha⟩ := rd_sibs g1
    have hcp : l.length ≤ cap ∧ cap ≤ maxLen := by rw [e1] at g1; exact rd_cap Tryz.underlying22 g1
    simp at e0 e1
    refine ⟨⟨ao, cap, ⟨k, l⟩, ⟨hk, hl1, hfl⟩, ha, hcp⟩, ?_⟩
    show [v0, v1] = [Value.string k, .slice ao l.length cap]
    rw [e0, e1]
set_option maxRecDepth 100000 in
theorem open_ob {H : Type} {enc : TypeId × Value → H} {W : World} {base : Nat} {v : Value} {d : DataW H} {p : List MemPlace}
    (hv : Value.okWide Tryz.prog W .any base 24 v) (h : DataW.Trod enc Tryz.prog W 0 (fun _ => true) true 24 v d p) :
    ∃ (ao : Option Addr) (cap : Nat) (o : Ob), v = .agg #[.string o.key, .slice ao o.l.length cap] ∧ FitsO o ∧ (o.l.length ≤ cap ∧ cap ≤ maxLen) ∧ SibsAt W ao o.l := by
  unfold Value.okWide at hv
  rw [Tryz.underlying24] at hv
  obtain ⟨cs, rfl, _, _⟩ := hv
  obtain ⟨c, h1⟩ := rd_ob (rd_of_trod h)
  have h3 : cs.toList = c.cs := h1
  refine ⟨c.ao, c.cap, c.o, ?_, c.fits, c.room, c.at_⟩
  have h4 : cs = #[.string c.o.key, .slice c.ao c.o.l.length c.cap] := Array.toList_inj.1 h3
  rw [h4]
end Go.Proofs.YteonkfedgopdiaaGreat
namespace Go.Proofs.YteonkfedgopdiaaGreat
open Go.RowKit
def RSibE (p : Sb × Int) (w : World) (e : Ending) (w' : World) : Prop := ∃ vo vc po pc, e = .returned (.tuple #[.agg #[.slice vo p.1.k.c.length vc, .bool p.1.k.d, .string p.1.k.x.a, .int .u64 (p.1.k.x.n : Int), .slice po p.1.m.length pc, .bool p.1.d, .string p.1.v], .int .i64 p.2]) ∧ SibIn w' vo po pc p.1 ∧ (∀ g off m, vo = some ⟨g, off, m⟩ → w.heap.size ≤ g) ∧ (∀ g off m, po = some ⟨g, off, m⟩ → w.heap.size ≤ g) ∧ Keep0 w w'
theorem RSibE.bare {p : Sb × Int} {w w' : World} {e : Ending} {E : Int} (hp : p = (zSb, E)) (h : e = .returned (.tuple #[.agg #[.slice none 0 0, .bool false, .string ⟨#[]⟩, .int .u64 0, .slice none 0 0, .bool false, .string ⟨#[]⟩], .int .i64 E])) (h3 : Keep0 w w') : RSibE p w e w' := by
  subst hp
  exact ⟨none, 0, none, 0, h, sibIn_zero _, (fun _ _ _ e => by cases e), (fun _ _ _ e => by cases e), h3⟩
theorem RSibE.mk {p : Sb × Int} {w w' : World} {e : Ending} {SS : Sb} {vo po : Option Addr} {vc pc : Nat} (hp : p = (SS, 0)) (h : e = .returned (.tuple #[.agg #[.slice vo SS.k.c.length vc, .bool SS.k.d, .string SS.k.x.a, .int .u64 (SS.k.x.n : Int), .slice po SS.m.length pc, .bool SS.d, .string SS.v], .int .i64 0])) (h1 : SibIn w' vo po pc SS) (h2 : ∀ g off m, vo = some ⟨g, off, m⟩ → w.heap.size ≤ g) (h2' : ∀ g off m, po = some ⟨g, off, m⟩ → w.heap.size ≤ g) (h3 : Keep0 w w') : RSibE p w e w' := by
  subst hp
  exact ⟨vo, vc, po, pc, h, h1, h2, h2', h3⟩
theorem SibIn.keep {R : Nat → Prop} {w w' : World} {vo po : Option Addr} {pc : Nat} {x : Sb} (h : SibIn w vo po pc x) (K : Keep R w w') (h1 : ApartE R vo) (h2 : ApartE R po) : SibIn w' vo po pc x := ⟨h.ens.keep K h1, h.prs.keep K h2, h.room⟩
end Go.Proofs.YteonkfedgopdiaaGreat
namespace Go.Proofs.YteonkfedgopdiaaGreat
open Go.RowKit
structure Ok15 (x : Sb) : Prop where
  len : x.k.c.length ≤ 10000
  mlen : x.m.length ≤ 10000
  fit : FitsS x
  vec : ∀ y ∈ x.k.c, y.a.size ≤ 1000000
  dot : x.k.x.a.size ≤ 1000000
  prs : ∀ y ∈ x.m, y.n.size ≤ 1000000 ∧ y.v.size ≤ 1000000
  val : x.v.size ≤ 1000000
theorem Ok15.u64 {x : Sb} (h : Ok15 x) : (∀ y ∈ x.k.c, U64 y.n) ∧ U64 x.k.x.n := ⟨fun y hy => (h.fit.clk.vec.2 y hy).2, h.fit.clk.num⟩
theorem okSib.ok {x : Sb} (h : okSib x) : Ok15 x := by
  have hR := (right_iff _).1 h.1.1
  have h1 := (check_zero _).1 hR.vec
  obtain ⟨h2, h3⟩ := (qCheck_zero _).1 h.2.1
  refine ⟨by omega, by omega, ⟨⟨⟨by unfold maxLen; omega, fun y hy => ⟨by have := (hR.good.1 y hy).2.1; unfold maxLen; omega, h.1.2.1 y hy⟩⟩, ?_, h.1.2.2⟩, ⟨by unfold maxLen; omega, fun y hy => by have := h3.1 y hy; unfold Pr.ok at this; unfold maxLen; omega⟩, by have := h.2.2; unfold maxLen; omega⟩, fun y hy => by have := (hR.good.1 y hy).2.1; omega, ?_, fun y hy => by have := h3.1 y hy; unfold Pr.ok at this; omega, by have := h.2.2; omega⟩
  · cases hd : x.k.d with
    | true => have := (hR.dot hd).1.2.1; unfold maxLen; omega
    | false => have := (hR.plain hd).1; omega
  · cases hd : x.k.d with
    | true => have := (hR.dot hd).1.2.1; omega
    | false => have := (hR.plain hd).1; omega
theorem sGreat_ok {x : Sb} (f : FitsS x) (h : sGreat x = false) : Ok15 x := by
  obtain ⟨q1, q2, q3⟩ := sGreat_no h
  unfold kGreat at q1
  rw [Bool.or_eq_false_iff] at q1
  have q4 := of_decide_eq_false q1.2
  exact ⟨by have := (great_no q1.1).1; omega, by have := (greatq_no q2).1; omega, f, fun y hy => by have := (great_no q1.1).2 y hy; omega, by omega, fun y hy => by have := (greatq_no q2).2 y hy; omega, by omega⟩
theorem zSb_ok : Ok15 zSb := ⟨by show 0 ≤ 10000; omega, by show 0 ≤ 10000; omega, ⟨⟨⟨by show 0 ≤ maxLen; omega, fun x hx => by cases hx⟩, by show 0 ≤ maxLen; omega, by show 0 < 18446744073709551616; omega⟩, ⟨by show 0 ≤ maxLen; omega, fun x hx => by cases hx⟩, by show 0 ≤ maxLen; omega⟩, (fun _ h => by cases h), by show 0 ≤ 1000000; omega, (fun _ h => by cases h), by show 0 ≤ 1000000; omega⟩
def SibsBy (w : World) (b r : Nat) (ao : Option Addr) (l : List Sb) : Prop := ∀ i (_ : i < l.length), ∃ bb off vo vc po pc, ao = some ⟨bb, off, none⟩ ∧ ¬ two b r bb ∧ SibAt w bb (off + i * 7) l[i] vo vc po pc ∧ SibIn w vo po pc l[i] ∧ (0 < l[i].k.c.length → ApartE (two b r) vo) ∧ (0 < l[i].m.length → ApartE (two b r) po)
theorem SibsBy.old {w0 w : World} {b r : Nat} {ao : Option Addr} {l : List Sb} (h : SibsAt w0 ao l) (k : Keep0 w0 w) (hb : w0.heap.size ≤ b) (hr : w0.heap.size ≤ r) : SibsBy w b r ao l := by
  intro i hi
  obtain ⟨bb, off, vo, vc, po, pc, e, h1, h2⟩ := h i hi
  have hbB := World.block_lt_of_cell? w0 _ h1.c0
  simp only at hbB
  refine ⟨bb, off, vo, vc, po, pc, e, by unfold two; omega, h1.keep0 k, h2.keep0 k, fun hl g o m e' hh => ?_, fun hl g o m e' hh => ?_⟩
  · have := ens_old h2.ens hl g o m e'
    unfold two at hh
    omega
  · have := prs_old h2.prs hl g o m e'
    unfold two at hh
    omega
def RCopy (x : Sb) (w : World) (e : Ending) (w' : World) : Prop := ∃ vo vc po pc, e = .returned (.agg #[.slice vo x.k.c.length vc, .bool x.k.d, .string x.k.x.a, .int .u64 (x.k.x.n : Int), .slice po x.m.length pc, .bool x.d, .string x.v]) ∧ w'.ownsRow w.heap.size 39 2 (.slice vo x.k.c.length vc) x.k.c.length (enCells x.k.c) ∧ w'.ownsRow w.heap.size 46 2 (.slice po x.m.length pc) x.m.length (prCells x.m) ∧ Keep0 w w'
def x15 : Sb := ⟨zCk, [], false, ⟨#[118]⟩⟩
theorem x15_ok : Ok15 x15 := ⟨by show 0 ≤ 10000; omega, by show 0 ≤ 10000; omega, ⟨⟨⟨by show 0 ≤ maxLen; omega, fun x hx => by cases hx⟩, by show 0 ≤ maxLen; omega, by show 0 < 18446744073709551616; omega⟩, ⟨by show 0 ≤ maxLen; omega, fun x hx => by cases hx⟩, by show 1 ≤ maxLen; unfold maxLen; omega⟩, (fun _ h => by cases h), by show 0 ≤ 1000000; omega, (fun _ h => by cases h), by show 1 ≤ 1000000; omega⟩
end Go.Proofs.YteonkfedgopdiaaGreat
namespace Go.Proofs.YteonkfedgopdiaaGreat
open Go.RowKit
structure Ok16 (o : Ob) : Prop where
  key : o.key.size ≤ 1000000
  len : o.l.length ≤ 100
  sib : ∀ x ∈ o.l, Ok15 x
theorem Ok16.fit {o : Ob} (h : Ok16 o) : FitsO o := ⟨by have := h.key; unfold maxLen; omega, by have := h.len; unfold maxLen; omega, fun x hx => (h.sib x hx).fit⟩
theorem okOb.ok {o : Ob} (h : okOb o) : Ok16 o := by
  obtain ⟨h1, h2⟩ := oCheck_zero.1 h.1
  obtain ⟨a1, a2, a3, a4⟩ := outS_zero.1 h1
  exact ⟨by omega, by omega, fun x hx => (okSib_U.2 ⟨h2.1 x hx, h.2 x hx⟩).ok⟩
theorem zOb_ok : Ok16 zOb := ⟨by show 0 ≤ 1000000; omega, by show 0 ≤ 100; omega, (fun _ h => by cases h)⟩
theorem Ok16.u {o : Ob} (h : Ok16 o) : ∀ x ∈ o.l, sbU x := fun x hx => (h.sib x hx).fit.u
structure CopyL (B : Nat) (w : World) (ao : Option Addr) (cap : Nat) (L : List Pl) : Prop where
  row : w.ownsRow B 44 7 (.slice ao L.length cap) L.length (rowOf Pl.cells L)
  vec : ∀ p ∈ L, w.ownsRow B 39 2 (.slice p.vo p.x.k.c.length p.vc) p.x.k.c.length (enCells p.x.k.c)
  prs : ∀ p ∈ L, w.ownsRow B 46 2 (.slice p.po p.x.m.length p.pc) p.x.m.length (prCells p.x.m)
  off : ∀ i j (_ : i < L.length) (_ : j < L.length), i ≠ j → 0 < L[i].x.m.length → 0 < L[j].x.m.length → ∀ g o m g' o' m', L[i].po = some ⟨g, o, m⟩ → L[j].po = some ⟨g', o', m'⟩ → g ≠ g'
def RCopyO (o : Ob) (w : World) (e : Ending) (w' : World) : Prop := ∃ ao cap L, e = .returned (.agg #[.string o.key, .slice ao L.length cap]) ∧ L.map Pl.x = o.l ∧ CopyL w.heap.size w' ao cap L ∧ Keep0 w w'
structure ObCode : Prop where
  check : ∀ (w : World) (ao : Option Addr) (cap : Nat) (o : Ob), Ok16 o → (o.l.length ≤ cap ∧ cap ≤ maxLen) → SibsAt w ao o.l → Calls Tryz.prog 11 #[.agg #[.string o.key, .slice ao o.l.length cap]] w fun e w' => e = .returned (.int .i64 (oCheck o)) ∧ Keep0 w w'
  encode : ∀ (w : World) (ao : Option Addr) (cap : Nat) (o : Ob), Ok16 o → (o.l.length ≤ cap ∧ cap ≤ maxLen) → SibsAt w ao o.l → Calls Tryz.prog 9 #[.agg #[.string o.key, .slice ao o.l.length cap]] w fun e w' => e = .returned (.tuple #[.string (encO o).1, .int .i64 (encO o).2]) ∧ Keep0 w w'
  decode : ∀ (w : World) (s : ByteArray), s.size ≤ 1000000 → Calls Tryz.prog 16 #[.string s] w (RObE (decO s) w)
  take : ∀ {w : World} {b : Nat} {s : ByteArray} {a x : Int}, Cur w b s a x → s.size ≤ 1000000 → Calls Tryz.prog 19 #[ptr b] w (RTakeO (rX zOb rOb s a x) s b w)
  put : ∀ {w : World} {b r : Nat} {t : ByteArray} {M x : Int} (ao : Option Addr) (cap : Nat) (o : Ob), Pen w b r t M x → t.size ≤ 1000000 → Ok16 o → (o.l.length ≤ cap ∧ cap ≤ maxLen) → SibsBy w b r ao o.l →
    Calls Tryz.prog 25 #[pptr b, .agg #[.string o.key, .slice ao o.l.length cap]] w fun e w' => e = .returned (.tuple #[]) ∧ PenAfter w w' b r M (pOb M (t, x) o)
  sort : ∀ (w : World) (key : ByteArray) (ao : Option Addr) (cap : Nat) (l : List Sb), Ok16 ⟨key, l⟩ → SibsAt w ao l → l.length ≤ cap → cap ≤ maxLen → Calls Tryz.prog 30 #[.string key, .slice ao l.length cap] w (RObS (oSort key l) w)
  same : ∀ (w : World) (ao : Option Addr) (cap : Nat) (o : Ob) (ao' : Option Addr) (cap' : Nat) (q : Ob), Ok16 o → Ok16 q → (o.l.length ≤ cap ∧ cap ≤ maxLen) → (q.l.length ≤ cap' ∧ cap' ≤ maxLen) → SibsAt w ao o.l → SibsAt w ao' q.l → Calls Tryz.prog 13 #[.agg #[.string o.key, .slice ao o.l.length cap], .agg #[.string q.key, .slice ao' q.l.length cap']] w fun e w' => e = .returned (.bool (oSame o q)) ∧ Keep0 w w'
  copy : ∀ (w : World) (ao : Option Addr) (cap : Nat) (o : Ob), Ok16 o → (o.l.length ≤ cap ∧ cap ≤ maxLen) → SibsAt w ao o.l → Calls Tryz.prog 15 #[.agg #[.string o.key, .slice ao o.l.length cap]] w (RCopyO o w)
def k16 : ByteArray := ⟨#[107]⟩
def o16 : Ob := ⟨k16, [x15]⟩
theorem o16_ok : Ok16 o16 := ⟨by show 1 ≤ 1000000; omega, by show 1 ≤ 100; omega, fun x hx => by rw [List.mem_singleton.1 hx]; exact x15_ok⟩
theorem o16_enc : encO o16 = (⟨#[1, 107, 1, 0, 0, 0, 0, 1, 118]⟩, 0) := by
  have h1 : vText 1 = ⟨#[1]⟩ := by unfold vText; rw [vEnc_lt (by decide)]; rfl
  have h0 : vText 0 = ⟨#[0]⟩ := by unfold vText; rw [vEnc_lt (by decide)]; rfl
  have e : eOb o16 = ⟨#[1, 107, 1, 0, 0, 0, 0, 1, 118]⟩ := by
    show (vText 1 ++ ⟨#[107]⟩) ++ (vText 1 ++ (((vText 0 ++ ⟨#[]⟩) ++ (one 0 ++ ⟨#[]⟩)) ++ ((vText 0 ++ ⟨#[]⟩) ++ (one 0 ++ (vText 1 ++ ⟨#[118]⟩))) ++ ⟨#[]⟩)) = _
    rw [h1, h0]
    rfl
  have hc : oCheck o16 = 0 := by rfl
  unfold encO
  rw [if_pos hc, e, if_pos (by decide)]
set_option maxRecDepth 100000 in
set_option maxHeartbeats 4000000 in
theorem awake16 (V : ObCode) (w : World) : Calls Tryz.prog 7 #[] w fun e w' => e = .returned (.bool true) ∧ Keep0 w w' := by
  have kA : Keep0 w (w.alloc (.cells #[.slice none x15.k.c.length 0, .bool x15.k.d, .string x15.k.x.a, .int .u64 (x15.k.x.n : Int), .slice none x15.m.length 0, .bool x15.d, .string x15.v] 44)) := (Keep.refl _ w).alloc _
  have hX := sib_new w 44 x15 none 0 none 0
  have hS : SibsAt (w.alloc (.cells #[.slice none x15.k.c.length 0, .bool x15.k.d, .string x15.k.x.a, .int .u64 (x15.k.x.n : Int), .slice none x15.m.length 0, .bool x15.d, .string x15.v] 44)) (some ⟨w.heap.size, 0, none⟩) o16.l := by
    intro i hi
    obtain rfl : i = 0 := by have h : i < 1 := hi; omega
    exact ⟨w.heap.size, 0, none, 0, none, 0, rfl, hX, ⟨ens_nil _ _, prs_nil _ _, Nat.le_refl _, Nat.zero_le _⟩⟩
  have y := V.encode _ (some ⟨w.heap.size, 0, none⟩) 1 o16 o16_ok ⟨Nat.le_refl _, by unfold maxLen; decide⟩ hS
  rw [o16_enc] at y
  have kA : Keep0 w (w.alloc (.cells #[.slice none 0 0, .bool false, .string ⟨#[]⟩, .int .u64 0, .slice none 0 0, .bool false, .string ⟨#[118]⟩] 44)) := kA
  have y : Calls Tryz.prog 9 #[.agg #[.string ⟨#[107]⟩, .slice (some ⟨w.heap.size, 0, none⟩) 1 1]] (w.alloc (.cells #[.slice none 0 0, .bool false, .string ⟨#[]⟩, .int .u64 0, .slice none 0 0, .bool false, .string ⟨#[118]⟩] 44)) fun e w' => e = .returned (.tuple #[.string ⟨#[1, 107, 1, 0, 0, 0, 0, 1, 118]⟩, .int .i64 0]) ∧ Keep0 (w.alloc (.cells #[.slice none 0 0, .bool false, .string ⟨#[]⟩, .int .u64 0, .slice none 0 0, .bool false, .string ⟨#[118]⟩] 44)) w' := y
  clear hX hS
  go_enter Tryz.func7, Tryz.ntmps7
  go_wp2_with fail
  refine y.mono ?_
  rintro e w1 ⟨rfl, k1⟩
  clear y
  have K := kA.trans k1
  clear kA k1
  go_wp2
  go_ret
  exact ⟨rfl, K⟩
end Go.Proofs.YteonkfedgopdiaaGreat
