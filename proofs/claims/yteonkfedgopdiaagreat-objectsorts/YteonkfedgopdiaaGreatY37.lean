/-
  What this seat's claims lean on of the texts ObjMem, Open16, RefSib4.
  Conditions: as each theorem states.
-/
import Derived.WalkKit
import Derived.ProofKit
import Derived.Below
import Derived.Deep.Draws
import Derived.Deep.RegionHeld
import Derived.Test.YteonkfedgopdiaaGreatChecked
import Derived.OpenShut
import Derived.ShutString
import Derived.WalkSpells
import Derived.WalkLawsBesides
import Derived.Deep.QuietTactic
import Derived.BigQuiet
import Derived.Laws.Bits64b
import Derived.PlainAid
import Derived.Lib.AppendStr
import Derived.Deep.AppendLies
import Derived.Laws.IdiomStrings
import Derived.Laws.BytesArg
import Derived.Deep.RegionWith
import Derived.Laws.AppendOwn
import Derived.Deep.DeepAppendWide
import Derived.Deep.Upon
import Derived.Maps.AppendAt
import Derived.Laws.Rows
import Derived.Deep.Slices
import Derived.Test.YteonkfedgopdiaaGreatY34
import Derived.Test.YteonkfedgopdiaaGreatY15
import Derived.Test.YteonkfedgopdiaaGreatY32
import Derived.Test.YteonkfedgopdiaaGreatY35
namespace Go.Proofs.YteonkfedgopdiaaGreat
open Go.RowKit
theorem retOb {fn : Func} {p : Tmp} (h : fn.results = #[.cell p 24]) (tmps : Array Value) (w : World) (g : Nat) {v0 v1 : Value}
    (hp : tmps.getD p undef = .pointer (some ⟨g, 0, none⟩)) (hg : DAt w g v0 v1) : (results fn tmps).run Tryz.prog w = .ok (.agg #[v0, v1]) w := by
  obtain ⟨ty, hk⟩ := hg.blk
  exact results_cell_row h tmps w g ty _ _ _ hp hk Tryz.underlying24 rfl (by kernel_rfl)
theorem retOb2 {fn : Func} {p u : Tmp} (h : fn.results = #[.cell p 24, .tmp u]) (tmps : Array Value) (w : World) (g : Nat) {v0 v1 : Value}
    (hp : tmps.getD p undef = .pointer (some ⟨g, 0, none⟩)) (hg : DAt w g v0 v1) : (results fn tmps).run Tryz.prog w = .ok (.tuple #[.agg #[v0, v1], tmps.getD u undef]) w := by
  obtain ⟨ty, hk⟩ := hg.blk
  have hp' : tmps[p]?.getD undef = .pointer (some ⟨g, 0, none⟩) := by simpa using hp
  have hl := run_loadVar_row w g ty 24 _ _ _ hk Tryz.underlying24 rfl (by kernel_rfl)
  simp [results, h, hp', asAddr, hl]
structure NewL (B : Nat) (w : World) (ao : Option Addr) (L : List Pl) : Prop where
  at_ : PlsAt w ao L
  own : ∀ g off m, ao = some ⟨g, off, m⟩ → B ≤ g
  vec : ∀ p ∈ L, ∀ g off m, p.vo = some ⟨g, off, m⟩ → B ≤ g
  prs : ∀ p ∈ L, ∀ g off m, p.po = some ⟨g, off, m⟩ → B ≤ g
theorem NewL.nil (B : Nat) (w : World) : NewL B w none [] := ⟨PlsAt.nil _ _, (fun _ _ _ e => by cases e), (fun _ h => by cases h), (fun _ h => by cases h)⟩
theorem NewL.keep {R : Nat → Prop} {B : Nat} {w w' : World} {ao : Option Addr} {L : List Pl} (h : NewL B w ao L) (K : Keep R w w') (hn : ∀ g, B ≤ g → ¬ R g) : NewL B w' ao L :=
  ⟨⟨h.at_.row.keep K (fun g off m e => hn g (h.own g off m e)), fun p hp => ⟨(h.at_.ins p hp).ens.keep K (fun g off m e => hn g (h.vec p hp g off m e)), (h.at_.ins p hp).prs.keep K (fun g off m e => hn g (h.prs p hp g off m e)), (h.at_.ins p hp).room⟩⟩, h.own, h.vec, h.prs⟩
def RTakeO (r : Ob × Int × Int) (s : ByteArray) (b : Nat) (w : World) (e : Ending) (w' : World) : Prop := ∃ ao cap L, e = .returned (.agg #[.string r.1.key, .slice ao r.1.l.length cap]) ∧ L.map Pl.x = r.1.l ∧ Cur w' b s r.2.1 r.2.2 ∧ NewL w.heap.size w' ao L ∧ (L.length ≤ cap ∧ cap ≤ maxLen) ∧ Keep1 b w w'
theorem RTakeO.bare {r : Ob × Int × Int} {s : ByteArray} {b : Nat} {w w' : World} {e : Ending} {A E : Int} (hr : r = (zOb, A, E)) (h : e = .returned (.agg #[.string ⟨#[]⟩, .slice none 0 0])) (h1 : Cur w' b s A E) (h4 : Keep1 b w w') : RTakeO r s b w e w' := by
  subst hr
  exact ⟨none, 0, [], h, rfl, h1, NewL.nil _ _, ⟨Nat.le_refl _, Nat.zero_le _⟩, h4⟩
theorem RTakeO.mk {r : Ob × Int × Int} {s : ByteArray} {b : Nat} {w w' : World} {e : Ending} {A E : Int} {K : ByteArray} {L : List Pl} {ao : Option Addr} {cap : Nat} (hr : r = (⟨K, L.map Pl.x⟩, A, E)) (h : e = .returned (.agg #[.string K, .slice ao L.length cap])) (h1 : Cur w' b s A E) (h2 : NewL w.heap.size w' ao L) (hcp : L.length ≤ cap ∧ cap ≤ maxLen) (h4 : Keep1 b w w') : RTakeO r s b w e w' := by
  subst hr
  exact ⟨ao, cap, L, by rw [h]; show _ = Ending.returned (.agg #[.string K, .slice ao (L.map Pl.x).length cap]); rw [List.length_map], rfl, h1, h2, hcp, h4⟩
def RObE (p : Ob × Int) (w : World) (e : Ending) (w' : World) : Prop := ∃ ao cap L, e = .returned (.tuple #[.agg #[.string p.1.key, .slice ao p.1.l.length cap], .int .i64 p.2]) ∧ L.map Pl.x = p.1.l ∧ NewL w.heap.size w' ao L ∧ (L.length ≤ cap ∧ cap ≤ maxLen) ∧ Keep0 w w'
theorem RObE.bare {p : Ob × Int} {w w' : World} {e : Ending} {E : Int} (hp : p = (zOb, E)) (h : e = .returned (.tuple #[.agg #[.string ⟨#[]⟩, .slice none 0 0], .int .i64 E])) (h3 : Keep0 w w') : RObE p w e w' := by
  subst hp
  exact ⟨none, 0, [], h, rfl, NewL.nil _ _, ⟨Nat.le_refl _, Nat.zero_le _⟩, h3⟩
end Go.Proofs.YteonkfedgopdiaaGreat
namespace Go.Proofs.YteonkfedgopdiaaGreat
open Go.RowKit Go.WideShapes Go.ChangeShapes
set_option maxRecDepth 100000 in
theorem rd_sibs {H : Type} {enc : TypeId × Value → H} {w : World} {cs : List Value} (h : Rd enc w 22 cs) :
    ∃ (ao : Option Addr) (cap : Nat) (l : List Sb), cs = [.slice ao l.length cap] ∧ l.length ≤ maxLen ∧ (∀ x ∈ l, FitsS x) ∧ SibsAt w ao l := by
  obtain ⟨ao, cap, es, h1, h2, h3, h4⟩ := rd_slice Tryz.underlying22 (by kernel_rfl : Tryz.prog.cellsOf 44 = 7) (by decide) h
  have hl : ∀ es : List (List Value), (∀ x ∈ es, ∃ c : Sbl w, x = c.cs) → ∃ l : List (Sbl w), es = l.map Sbl.cs := by
    intro es
    induction es with
    | nil => exact fun _ => ⟨[], rfl⟩
    | cons x es ih =>
      intro h
      obtain ⟨a, rfl⟩ := h x (by simp)
      obtain ⟨l, rfl⟩ := ih (fun y hy => h y (by simp [hy]))
      exact ⟨a :: l, rfl⟩
  obtain ⟨l, rfl⟩ := hl es (fun x hx => rd_sib (h4 x hx))
  refine ⟨ao, cap, l.map Sbl.x, by simpa using h1, by rw [List.length_map]; simpa using h2, ?_, fun i hi => ?_⟩
  · intro k hk
    obtain ⟨c, _, rfl⟩ := List.mem_map.1 hk
    exact c.fits
  · have hi' : i < l.length := by simpa using hi
    obtain ⟨b, off, e1, e2, e3⟩ := h3.cell i (by simpa using hi')
    refine ⟨b, off, l[i].vo, l[i].vc, l[i].po, l[i].pc, e1, ?_, ?_⟩
    · rw [List.getElem_map]
      refine ⟨?_, ?_, ?_, ?_, ?_, ?_, ?_⟩
      · simpa [Sbl.cs] using e3 0 (by simp [Sbl.cs])
      · simpa [Sbl.cs] using e3 1 (by simp [Sbl.cs])
      · simpa [Sbl.cs] using e3 2 (by simp [Sbl.cs])
      · simpa [Sbl.cs] using e3 3 (by simp [Sbl.cs])
      · simpa [Sbl.cs] using e3 4 (by simp [Sbl.cs])
      · simpa [Sbl.cs] using e3 5 (by simp [Sbl.cs])
      · simpa [Sbl.cs] using e3 6 (by simp [Sbl.cs])
    · rw [List.getElem_map]
      exact l[i].at_
set_option maxRecDepth 100000 in
theorem open_sibsC {H : Type} {enc : TypeId × Value → H} {W : World} {base : Nat} {v : Value} {d : DataW H} {p : List MemPlace}
    (hv : Value.okWide Tryz.prog W .any base 22 v) (h : DataW.Trod enc Tryz.prog W 0 (fun _ => true) true 22 v d p) :
    ∃ (ao : Option Addr) (cap : Nat) (l : List Sb), v = .slice ao l.length cap ∧ l.length ≤ maxLen ∧ (l.length ≤ cap ∧ cap ≤ maxLen) ∧ (∀ x ∈ l, FitsS x) ∧ SibsAt W ao l := by
  obtain ⟨ao', len', cap', rfl⟩ := okWide_slice Tryz.underlying22 hv
  have hrd := rd_of_trod h
  obtain ⟨ao, cap, l, h1, h2, h3, h4⟩ := rd_sibs hrd
  have e1 : Value.slice ao' len' cap' = .slice ao l.length cap := by simpa [Value.cells] using h1
  obtain ⟨rfl, rfl, rfl⟩ : ao' = ao ∧ len' = l.length ∧ cap' = cap := by cases e1; exact ⟨rfl, rfl, rfl⟩
  exact ⟨_, _, l, rfl, h2, rd_cap Tryz.underlying22 hrd, h3, h4⟩
structure Obl (w : World) where
  ao : Option Addr
  cap : Nat
  o : Ob
  fits : FitsO o
  at_ : SibsAt w ao o.l
  room : o.l.length ≤ cap ∧ cap ≤ maxLen
def Obl.cs {w : World} (c : Obl w) : List Value := [.string c.o.key, .slice c.ao c.o.l.length c.cap]
end Go.Proofs.YteonkfedgopdiaaGreat
namespace Go.Proofs.YteonkfedgopdiaaGreat
open Go.RowKit
def RSibE (p : Sb × Int) (w : World) (e : Ending) (w' : World) : Prop := ∃ vo vc po pc, e = .returned (.tuple #[.agg #[.slice vo p.1.k.c.length vc, .bool p.1.k.d, .string p.1.k.x.a, .int .u64 (p.1.k.x.n : Int), .slice po p.1.m.length pc, .bool p.1.d, .string p.1.v], .int .i64 p.2]) ∧ SibIn w' vo po pc p.1 ∧ (∀ g off m, vo = some ⟨g, off, m⟩ → w.heap.size ≤ g) ∧ (∀ g off m, po = some ⟨g, off, m⟩ → w.heap.size ≤ g) ∧ Keep0 w w'
theorem RSibE.bare {p : Sb × Int} {w w' : World} {e : Ending} {E : Int} (hp : p = (zSb, E)) (h : e = .returned (.tuple #[.agg #[.slice none 0 0, .bool false, .string ⟨#[]⟩, .int .u64 0, .slice none 0 0, .bool false, .string ⟨#[]⟩], .int .i64 E])) (h3 : Keep0 w w') : RSibE p w e w' := by
  subst hp
  exact ⟨none, 0, none, 0, h, sibIn_zero _, (fun _ _ _ e => by cases e), (fun _ _ _ e => by cases e), h3⟩
theorem RSibE.mk {p : Sb × Int} {w w' : World} {e : Ending} {SS : Sb} {vo po : Option Addr} {vc pc : Nat} (hp : p = (SS, 0)) (h : e = .returned (.tuple #[.agg #[.slice vo SS.k.c.length vc, .bool SS.k.d, .string SS.k.x.a, .int .u64 (SS.k.x.n : Int), .slice po SS.m.length pc, .bool SS.d, .string SS.v], .int .i64 0])) (h1 : SibIn w' vo po pc SS) (h2 : ∀ g off m, vo = some ⟨g, off, m⟩ → w.heap.size ≤ g) (h2' : ∀ g off m, po = some ⟨g, off, m⟩ → w.heap.size ≤ g) (h3 : Keep0 w w') : RSibE p w e w' := by
  subst hp
  exact ⟨vo, vc, po, pc, h, h1, h2, h2', h3⟩
theorem SibIn.keep {R : Nat → Prop} {w w' : World} {vo po : Option Addr} {pc : Nat} {x : Sb} (h : SibIn w vo po pc x) (K : Keep R w w') (h1 : ApartE R vo) (h2 : ApartE R po) : SibIn w' vo po pc x := ⟨h.ens.keep K h1, h.prs.keep K h2, h.room⟩
end Go.Proofs.YteonkfedgopdiaaGreat
