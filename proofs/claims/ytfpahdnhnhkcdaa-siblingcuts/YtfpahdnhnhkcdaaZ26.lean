/-
  What this seat's claims lean on of the texts RefSib4, Open, Open10, Open12, Open14.
  Conditions: as each theorem states.
-/
import Derived.WalkKit
import Derived.ProofKit
import Derived.Below
import Derived.Deep.Draws
import Derived.Deep.RegionHeld
import Derived.Test.YtfpahdnhnhkcdaaChecked
import Derived.OpenShut
import Derived.ShutString
import Derived.WalkSpells
import Derived.WalkLawsBesides
import Derived.Deep.QuietTactic
import Derived.BigQuiet
import Derived.Laws.Bits64b
import Derived.PlainAid
import Derived.Lib.AppendStr
import Derived.Deep.AppendLies
import Derived.Laws.IdiomStrings
import Derived.Laws.BytesArg
import Derived.Deep.RegionWith
import Derived.Laws.AppendOwn
import Derived.Deep.DeepAppendWide
import Derived.Deep.Upon
import Derived.Laws.Rows
import Derived.Test.YtfpahdnhnhkcdaaZ25
import Derived.Deep.Slices
import Derived.Test.YtfpahdnhnhkcdaaZ1
import Derived.Test.YtfpahdnhnhkcdaaZ15
import Derived.Test.YtfpahdnhnhkcdaaZ13
import Derived.Test.YtfpahdnhnhkcdaaZ14
namespace Go.Proofs.Ytfpahdnhnhkcdaa
open Go.RowKit
def RSibE (p : Sb × Int) (w : World) (e : Ending) (w' : World) : Prop := ∃ vo vc po pc, e = .returned (.tuple #[.agg #[.slice vo p.1.k.c.length vc, .bool p.1.k.d, .string p.1.k.x.a, .int .u64 (p.1.k.x.n : Int), .slice po p.1.m.length pc, .bool p.1.d, .string p.1.v], .int .i64 p.2]) ∧ SibIn w' vo po pc p.1 ∧ (∀ g off m, vo = some ⟨g, off, m⟩ → w.heap.size ≤ g) ∧ (∀ g off m, po = some ⟨g, off, m⟩ → w.heap.size ≤ g) ∧ Keep0 w w'
theorem RSibE.bare {p : Sb × Int} {w w' : World} {e : Ending} {E : Int} (hp : p = (zSb, E)) (h : e = .returned (.tuple #[.agg #[.slice none 0 0, .bool false, .string ⟨#[]⟩, .int .u64 0, .slice none 0 0, .bool false, .string ⟨#[]⟩], .int .i64 E])) (h3 : Keep0 w w') : RSibE p w e w' := by
  subst hp
  exact ⟨none, 0, none, 0, h, sibIn_zero _, (fun _ _ _ e => by cases e), (fun _ _ _ e => by cases e), h3⟩
theorem RSibE.mk {p : Sb × Int} {w w' : World} {e : Ending} {SS : Sb} {vo po : Option Addr} {vc pc : Nat} (hp : p = (SS, 0)) (h : e = .returned (.tuple #[.agg #[.slice vo SS.k.c.length vc, .bool SS.k.d, .string SS.k.x.a, .int .u64 (SS.k.x.n : Int), .slice po SS.m.length pc, .bool SS.d, .string SS.v], .int .i64 0])) (h1 : SibIn w' vo po pc SS) (h2 : ∀ g off m, vo = some ⟨g, off, m⟩ → w.heap.size ≤ g) (h2' : ∀ g off m, po = some ⟨g, off, m⟩ → w.heap.size ≤ g) (h3 : Keep0 w w') : RSibE p w e w' := by
  subst hp
  exact ⟨vo, vc, po, pc, h, h1, h2, h2', h3⟩
theorem SibIn.keep {R : Nat → Prop} {w w' : World} {vo po : Option Addr} {pc : Nat} {x : Sb} (h : SibIn w vo po pc x) (K : Keep R w w') (h1 : ApartE R vo) (h2 : ApartE R po) : SibIn w' vo po pc x := ⟨h.ens.keep K h1, h.prs.keep K h2, h.room⟩
set_option maxRecDepth 100000 in
set_option maxHeartbeats 4000000 in
theorem rdecode15 (w : World) (s : ByteArray) (hs : s.size ≤ maxLen) :
    Calls Try.prog 18 #[.string s] w (RSibE (decS s) w) := by
  have HE : Hid (∀ (W : World) (e : Ending) (E : Int), decS s = (zSb, E) → e = .returned (.tuple #[.agg #[.slice none 0 0, .bool false, .string ⟨#[]⟩, .int .u64 0, .slice none 0 0, .bool false, .string ⟨#[]⟩], .int .i64 E]) → Keep0 w W → RSibE (decS s) w e W) := fun _ _ _ h1 h2 h3 => RSibE.bare h1 h2 h3
  have HM : Hid (∀ (W : World) (e : Ending) (SS : Sb) (vo po : Option Addr) (vc pc : Nat), decS s = (SS, 0) → e = .returned (.tuple #[.agg #[.slice vo SS.k.c.length vc, .bool SS.k.d, .string SS.k.x.a, .int .u64 (SS.k.x.n : Int), .slice po SS.m.length pc, .bool SS.d, .string SS.v], .int .i64 0]) → SibIn W vo po pc SS → (∀ g off m, vo = some ⟨g, off, m⟩ → w.heap.size ≤ g) → (∀ g off m, po = some ⟨g, off, m⟩ → w.heap.size ≤ g) → Keep0 w W → RSibE (decS s) w e W) := fun _ _ _ _ _ _ _ h1 h2 h3 h4 h5 h6 => RSibE.mk h1 h2 h3 h4 h5 h6
  have kA : Keep0 w ((w.alloc (.cells #[.slice none 0 0, .bool false, .string ⟨#[]⟩, .int .u64 0, .slice none 0 0, .bool false, .string ⟨#[]⟩] 30)).alloc (.cells #[.string s, .int .i64 0, .int .i64 0] 54)) := ((Keep.refl _ w).alloc _).alloc _
  have q2 : SAt ((w.alloc (.cells #[.slice none 0 0, .bool false, .string ⟨#[]⟩, .int .u64 0, .slice none 0 0, .bool false, .string ⟨#[]⟩] 30)).alloc (.cells #[.string s, .int .i64 0, .int .i64 0] 54)) w.heap.size (.slice none 0 0) (.bool false) (.string ⟨#[]⟩) (.int .u64 0) (.slice none 0 0) (.bool false) (.string ⟨#[]⟩) := (SAt.new w 30 (.slice none 0 0) (.bool false) (.string ⟨#[]⟩) (.int .u64 0) (.slice none 0 0) (.bool false) (.string ⟨#[]⟩)).keep0 ((Keep.refl _ _).alloc _)
  have c0 := Cur.new (w.alloc (.cells #[.slice none 0 0, .bool false, .string ⟨#[]⟩, .int .u64 0, .slice none 0 0, .bool false, .string ⟨#[]⟩] 30)) s 54 hs
  rw [World.size_alloc] at c0
  have z1 : ((w.alloc (.cells #[.slice none 0 0, .bool false, .string ⟨#[]⟩, .int .u64 0, .slice none 0 0, .bool false, .string ⟨#[]⟩] 30)).alloc (.cells #[.string s, .int .i64 0, .int .i64 0] 54)).heap.size = w.heap.size + 2 := by rw [World.size_alloc, World.size_alloc]
  have yt := rtake15 c0
  rw [rX_yes] at yt
  have HD : Hid (if cEnd s (rSib s 0).2.1 (rSib s 0).2.2 = 0 then decS s = ((rSib s 0).1, 0) else decS s = (zSb, cEnd s (rSib s 0).2.1 (rSib s 0).2.2)) := by
    show if _ then _ else _
    unfold decS dec
    split <;> rfl
  have ye := fun (W : World) (g : Nat) (h : Cur W g s (rSib s 0).2.1 (rSib s 0).2.2) => rend_any h
  generalize hE : cEnd s (rSib s 0).2.1 (rSib s 0).2.2 = E at *
  obtain ⟨RV, hRV⟩ : ∃ RV, rSib s 0 = RV := ⟨_, rfl⟩
  rw [hRV] at yt ye HD
  clear hE hRV c0
  obtain ⟨SS, A, X⟩ := RV
  have yt : Calls Try.prog 23 #[ptr (w.heap.size + 1)] ((w.alloc (.cells #[.slice none 0 0, .bool false, .string ⟨#[]⟩, .int .u64 0, .slice none 0 0, .bool false, .string ⟨#[]⟩] 30)).alloc (.cells #[.string s, .int .i64 0, .int .i64 0] 54)) (fun e w' => ∃ vo vc po pc, e = .returned (.agg #[.slice vo SS.k.c.length vc, .bool SS.k.d, .string SS.k.x.a, .int .u64 (SS.k.x.n : Int), .slice po SS.m.length pc, .bool SS.d, .string SS.v]) ∧ Cur w' (w.heap.size + 1) s A X ∧ SibIn w' vo po pc SS ∧ (∀ g off m, vo = some ⟨g, off, m⟩ → ((w.alloc (.cells #[.slice none 0 0, .bool false, .string ⟨#[]⟩, .int .u64 0, .slice none 0 0, .bool false, .string ⟨#[]⟩] 30)).alloc (.cells #[.string s, .int .i64 0, .int .i64 0] 54)).heap.size ≤ g) ∧ (∀ g off m, po = some ⟨g, off, m⟩ → ((w.alloc (.cells #[.slice none 0 0, .bool false, .string ⟨#[]⟩, .int .u64 0, .slice none 0 0, .bool false, .string ⟨#[]⟩] 30)).alloc (.cells #[.string s, .int .i64 0, .int .i64 0] 54)).heap.size ≤ g) ∧ Keep1 (w.heap.size + 1) ((w.alloc (.cells #[.slice none 0 0, .bool false, .string ⟨#[]⟩, .int .u64 0, .slice none 0 0, .bool false, .string ⟨#[]⟩] 30)).alloc (.cells #[.string s, .int .i64 0, .int .i64 0] 54)) w') := yt
  have ye : ∀ (W : World) (g : Nat), Cur W g s A X → Calls Try.prog 42 #[ptr g] W fun e w' => e = .returned (.int .i64 E) ∧ Cur w' g s A E ∧ Keep1 g W w' := ye
  have HD : Hid (if E = 0 then decS s = (SS, 0) else decS s = (zSb, E)) := HD
  go_enter Try.func18, Try.ntmps18
  go_wp2_with fail
  generalize ((w.alloc (.cells #[.slice none 0 0, .bool false, .string ⟨#[]⟩, .int .u64 0, .slice none 0 0, .bool false, .string ⟨#[]⟩] 30)).alloc (.cells #[.string s, .int .i64 0, .int .i64 0] 54)) = WB at *
  obtain ⟨g2, hg2⟩ : ∃ g2, w.heap.size = g2 := ⟨_, rfl⟩
  rw [hg2] at q2 z1 yt ⊢
  obtain ⟨gc, hgc⟩ : ∃ gc, g2 + 1 = gc := ⟨_, rfl⟩
  rw [hgc] at yt ⊢
  have n2 : g2 ≠ gc := by omega
  have HG : Hid (w.heap.size = g2 ∧ g2 + 1 = gc) := ⟨hg2, hgc⟩
  refine yt.mono ?_
  rintro e w1 ⟨vo, vc, po, pc, rfl, c1, hE1, hF1, hF2, k1⟩
  have K1 : Keep0 w w1 := kA.step k1 (fun i hi hh => by omega)
  have q2a := q2.keep k1 n2
  have HF : Hid (∀ g off m, vo = some ⟨g, off, m⟩ → g2 + 2 ≤ g) := fun g off m e => by have := hF1 g off m e; omega
  have HFP : Hid (∀ g off m, po = some ⟨g, off, m⟩ → g2 + 2 ≤ g) := fun g off m e => by have := hF2 g off m e; omega
  clear yt k1 kA q2 hF1 hF2 z1 hg2 hgc hs
  have kB : Keep0 w1 (w1.alloc (.cells #[.slice vo SS.k.c.length vc, .bool SS.k.d, .string SS.k.x.a, .int .u64 (SS.k.x.n : Int), .slice po SS.m.length pc, .bool SS.d, .string SS.v] 30)) := (Keep.refl _ w1).alloc _
  have q3 := SAt.new w1 30 (.slice vo SS.k.c.length vc) (.bool SS.k.d) (.string SS.k.x.a) (.int .u64 (SS.k.x.n : Int)) (.slice po SS.m.length pc) (.bool SS.d) (.string SS.v)
  have c2 := c1.keep0 kB
  have q2b := q2a.keep0 kB
  have hE2 := hE1.keep0 kB
  have K2 := K1.trans kB
  have hlt := c1.lt
  have ye := ye _ _ c2
  clear kB c1 q2a hE1 K1
  go_wp2_with fail
  generalize (w1.alloc (.cells #[.slice vo SS.k.c.length vc, .bool SS.k.d, .string SS.k.x.a, .int .u64 (SS.k.x.n : Int), .slice po SS.m.length pc, .bool SS.d, .string SS.v] 30)) = W2 at *
  obtain ⟨g3, hg3⟩ : ∃ g3, w1.heap.size = g3 := ⟨_, rfl⟩
  rw [hg3] at q3 hlt ⊢
  have n3 : g3 ≠ gc := by omega
  refine ye.mono ?_
  rintro e w3 ⟨rfl, c3, k3⟩
  have K3 : Keep0 w w3 := K2.step k3 (fun i hi hh => by have := HG.out; omega)
  have q2c := q2b.keep k3 n2
  have q3c := q3.keep k3 n3
  have hE3 := hE2.keep k3 (fun g off m e hh => by have := HF.out g off m e; have := HG.out; omega) (fun g off m e hh => by have := HFP.out g off m e; have := HG.out; omega)
  clear ye k3 K2 q2b q3 hE2 c2 c3 hg3 hlt
  obtain ⟨u0, u1, u2, u3, u4, u5, u6, f0, f1, f2, f3, f4, f5, f6⟩ := q2c.cells
  obtain ⟨t0, t1, t2, t3, t4, t5, t6, h0, h1, h2, h3, h4, h5, h6⟩ := q3c.cells
  by_cases hz : E = 0
  · have hd := HD.out
    rw [if_pos hz] at hd
    have HV : Hid (decS s = (SS, 0)) := hd
    subst hz
    clear hd HD HE
    go_wp2
    refine bodyPost_ret (retSb2 rfl _ _ _ rfl (q2c.put (.slice vo SS.k.c.length vc) (.bool SS.k.d) (.string SS.k.x.a) (.int .u64 (SS.k.x.n : Int)) (.slice po SS.m.length pc) (.bool SS.d) (.string SS.v))) rfl ?_
    exact HM.out _ _ SS vo po vc pc HV.out rfl (hE3.keep (put7_keep _ _ _ _ _ _ _ _ _) (fun g off m e hh => by have := HF.out g off m e; omega) (fun g off m e hh => by have := HFP.out g off m e; omega)) (fun g off m e => by have := HF.out g off m e; have := HG.out; omega) (fun g off m e => by have := HFP.out g off m e; have := HG.out; omega) (K3.step (put7_keep _ _ _ _ _ _ _ _ _) (fun i hi hh => by have := HG.out; omega))
  · have hd := HD.out
    rw [if_neg hz] at hd
    have HV : Hid (decS s = (zSb, E)) := hd
    have e0 : (E != 0) = true := by simpa using hz
    clear hd HD HM hz
    go_wp2
    refine bodyPost_ret (retSb2 rfl _ _ _ rfl (q2c.put (.slice none 0 0) (.bool false) (.string ⟨#[]⟩) (.int .u64 0) (.slice none 0 0) (.bool false) (.string ⟨#[]⟩))) rfl ?_
    exact HE.out _ _ _ HV.out rfl (K3.step (put7_keep _ _ _ _ _ _ _ _ _) (fun i hi hh => by have := HG.out; omega))
end Go.Proofs.Ytfpahdnhnhkcdaa
namespace Go.Proofs.Ytfpahdnhnhkcdaa
open Go.RowKit Go.WideShapes Go.ChangeShapes
def Rd {H : Type} (enc : TypeId × Value → H) (w : World) (t : TypeId) (cs : List Value) : Prop :=
  ∃ fuel x, DataW.trod enc Try.prog w 0 (fun _ => true) true fuel t cs = some x
section
variable {H : Type} {enc : TypeId × Value → H} {w : World} {t : TypeId} {cs : List Value}
set_option maxRecDepth 100000 in
theorem rd_int {k : IntKind} (ht : Try.prog.underlying t = some (.int k)) (h : Rd enc w t cs) : ∃ n, cs = [.int k n] ∧ (Lit.int k n).wf = true := by
  obtain ⟨fuel, x, h⟩ := h
  obtain ⟨n, h1, _, h2⟩ := DataW.trod_int ht h
  exact ⟨n, h1, h2⟩
set_option maxRecDepth 100000 in
theorem rd_string (ht : Try.prog.underlying t = some .string) (h : Rd enc w t cs) : ∃ s : ByteArray, cs = [.string s] ∧ s.size ≤ maxLen := by
  obtain ⟨fuel, x, h⟩ := h
  obtain ⟨n, h1, _, h2⟩ := DataW.trod_string ht h
  exact ⟨n, h1, h2⟩
set_option maxRecDepth 100000 in
theorem rd_struct {fs : Array Field} (ht : Try.prog.underlying t = some (.struct fs)) (h : Rd enc w t cs) :
    cs.length = Try.prog.cellsOf t ∧ ∀ (i : Nat) (f : Field), fs[i]? = some f → Rd enc w f.type ((cs.drop f.offset).take (Try.prog.cellsOf f.type)) := by
  obtain ⟨fuel, x, h⟩ := h
  obtain ⟨xs, n, _, _, hl, hs, hf⟩ := DataW.trod_struct ht h
  refine ⟨hl, fun i f hi => ?_⟩
  have := hf i f hi
  have hlt : i < xs.length := by
    rw [hs]
    exact (Array.getElem?_eq_some_iff.1 hi).1
  rw [List.getElem?_eq_getElem hlt] at this
  exact ⟨_, _, this⟩
structure Elems (w : World) (size : Nat) (ao : Option Addr) (es : List (List Value)) : Prop where
  len : ∀ i (h : i < es.length), es[i].length = size
  cell : ∀ i (h : i < es.length), ∃ b off, ao = some ⟨b, off, none⟩ ∧ b < w.heap.size ∧ ∀ j (hj : j < es[i].length), w.cell? ⟨b, off + i * size + j, none⟩ = some es[i][j]
set_option maxRecDepth 100000 in
theorem rd_slice {e : TypeId} {size : Nat} (ht : Try.prog.underlying t = some (.slice e)) (hsz : Try.prog.cellsOf e = size) (hpos : 0 < size) (h : Rd enc w t cs) :
    ∃ ao cap es, cs = [.slice ao es.length cap] ∧ es.length ≤ maxLen ∧ Elems w size ao es ∧ ∀ x ∈ es, Rd enc w e x := by
  obtain ⟨fuel, x, h⟩ := h
  rcases Go.Deep.open_slice ht h with ⟨rfl, _⟩ | ⟨a, len, cap, m, n, D, Pl, rfl, _, hl, hm, hmm, _, hx⟩
  · exact ⟨none, 0, [], rfl, Nat.zero_le _, ⟨fun i h => absurd h (by simp), fun i h => absurd h (by simp)⟩, fun x hx => absurd hx (by simp)⟩
  · simp only [if_true] at hmm
    subst hmm
    have each : ∀ i, i < len → ∃ q : List Value, q.length = size ∧ (∀ j (hj : j < q.length), w.cell? ((a.add (i * size)).add j) = some q[j]) ∧ Rd enc w e q := by
      intro i hi
      obtain ⟨cs', h1, h2⟩ := hx i (by omega)
      obtain ⟨_, hlen, hcell⟩ := World.cells?_some h1
      rw [hsz] at hlen hcell
      exact ⟨cs', hlen, fun j hj => by rw [hcell j (by omega), List.getElem?_eq_getElem hj], ⟨_, _, h2⟩⟩
    obtain ⟨q, hq⟩ := Go.Deep.choose_lt each
    refine ⟨some a, m, (List.range len).map q, by simp, by simp; omega, ⟨fun i hi => ?_, fun i hi => ?_⟩, fun x hx => ?_⟩
    · simp at hi
      simpa using (hq i hi).1
    · simp at hi
      obtain ⟨b, off, spot⟩ := a
      obtain ⟨hl0, hc0, _⟩ := hq 0 (by omega)
      have hz := hc0 0 (by omega)
      have hspot : spot = none := by simpa [Addr.add] using World.cell?_spot hz
      subst hspot
      obtain ⟨hl1, hc1, _⟩ := hq i hi
      have hblk := World.block_lt_of_cell? w _ hz
      rw [add_plain, add_plain] at hblk
      refine ⟨b, off, rfl, hblk, fun j hj => ?_⟩
      simp at hj
      have := hc1 j hj
      rw [add_plain, add_plain] at this
      simpa using this
    · simp only [List.mem_map, List.mem_range] at hx
      obtain ⟨i, hi, rfl⟩ := hx
      exact (hq i hi).2.2
end
section
variable {H : Type} {enc : TypeId × Value → H} {w : World} {t : TypeId} {cs : List Value}
end
theorem rd_of_trod {H : Type} {enc : TypeId × Value → H} {W : World} {t : TypeId} {v : Value} {d : DataW H} {p : List MemPlace}
    (h : DataW.Trod enc Try.prog W 0 (fun _ => true) true t v d p) : Rd enc W t v.cells.toList := by
  obtain ⟨fuel, hf⟩ := h
  exact ⟨fuel, _, hf⟩
end Go.Proofs.Ytfpahdnhnhkcdaa
namespace Go.Proofs.Ytfpahdnhnhkcdaa
open Go.RowKit Go.WideShapes Go.ChangeShapes
set_option maxRecDepth 100000 in
theorem rd_entry {H : Type} {enc : TypeId × Value → H} {w : World} {cs : List Value} (h : Rd enc w 25 cs) : ∃ x : En, cs = x.cells ∧ x.a.size ≤ maxLen ∧ x.n < 18446744073709551616 := by
  obtain ⟨hl, hf⟩ := rd_struct Try.underlying25 h
  have hl2 : cs.length = 2 := hl.trans (by kernel_rfl)
  match cs, hl2 with
  | [v0, v1], _ =>
    have g0 := hf 0 _ rfl
    have g1 := hf 1 _ rfl
    have c5 : Try.prog.cellsOf 23 = 1 := by kernel_rfl
    have cs' : Try.prog.cellsOf 9 = 1 := by kernel_rfl
    simp [c5, cs'] at g0 g1
    obtain ⟨s, e0, hs⟩ := rd_string Try.underlying9 g0
    obtain ⟨n1, e1, w1⟩ := rd_int Try.underlying23 g1
    have hb := bounds_u64 w1
    simp at e0 e1
    subst e0 e1
    refine ⟨⟨s, n1.toNat⟩, ?_, hs, by show n1.toNat < _; omega⟩
    show [Value.string s, Value.int .u64 n1] = [Value.string s, Value.int .u64 ((n1.toNat : Nat) : Int)]
    rw [Int.toNat_of_nonneg hb.1]
set_option maxRecDepth 100000 in
theorem rd_ens {H : Type} {enc : TypeId × Value → H} {w : World} {cs : List Value} (h : Rd enc w 22 cs) :
    ∃ (ao : Option Addr) (cap : Nat) (l : List En), cs = [.slice ao l.length cap] ∧ Fits l ∧ EnsAt w ao l := by
  obtain ⟨ao, cap, es, h1, h2, h3, h4⟩ := rd_slice Try.underlying22 (by kernel_rfl : Try.prog.cellsOf 25 = 2) (by decide) h
  have hl : ∀ es : List (List Value), (∀ x ∈ es, ∃ f : En, x = f.cells ∧ f.a.size ≤ maxLen ∧ f.n < 18446744073709551616) → ∃ l : List En, es = l.map En.cells ∧ ∀ f ∈ l, f.a.size ≤ maxLen ∧ f.n < 18446744073709551616 := by
    intro es
    induction es with
    | nil => exact fun _ => ⟨[], rfl, by simp⟩
    | cons x es ih =>
      intro h
      obtain ⟨a, rfl, ha⟩ := h x (by simp)
      obtain ⟨l, rfl, hl⟩ := ih (fun y hy => h y (by simp [hy]))
      exact ⟨a :: l, rfl, by simp; exact ⟨ha, hl⟩⟩
  obtain ⟨l, rfl, hok⟩ := hl es (fun x hx => rd_entry (h4 x hx))
  refine ⟨ao, cap, l, by simpa using h1, ⟨by simpa using h2, hok⟩, fun i hi => ?_⟩
  obtain ⟨b, off, e1, e2, e3⟩ := h3.cell i (by simpa using hi)
  refine ⟨b, off, e1, ?_, ?_⟩
  · simpa [En.cells] using e3 0 (by simp [En.cells])
  · simpa [En.cells] using e3 1 (by simp [En.cells])
end Go.Proofs.Ytfpahdnhnhkcdaa
namespace Go.Proofs.Ytfpahdnhnhkcdaa
open Go.RowKit Go.WideShapes Go.ChangeShapes
theorem rd_bool {H : Type} {enc : TypeId × Value → H} {w : World} {t : TypeId} {cs : List Value} (ht : Try.prog.underlying t = some .bool) (h : Rd enc w t cs) : ∃ b, cs = [.bool b] := by
  obtain ⟨fuel, x, h⟩ := h
  obtain ⟨n, h1, _⟩ := DataW.trod_bool ht h
  exact ⟨n, h1⟩
structure Clk (w : World) where
  ao : Option Addr
  cap : Nat
  k : Ck
  fits : FitsK k
  at_ : EnsAt w ao k.c
def Clk.cs {w : World} (c : Clk w) : List Value := [.slice c.ao c.k.c.length c.cap, .bool c.k.d, .string c.k.x.a, .int .u64 (c.k.x.n : Int)]
set_option maxRecDepth 100000 in
theorem rd_clock {H : Type} {enc : TypeId × Value → H} {w : World} {cs : List Value} (h : Rd enc w 27 cs) : ∃ c : Clk w, cs = c.cs := by
  obtain ⟨hl, hf⟩ := rd_struct Try.underlying27 h
  have hl4 : cs.length = 4 := hl.trans (by kernel_rfl)
  match cs, hl4 with
  | [v0, v1, v2, v3], _ =>
    have g0 := hf 0 _ rfl
    have g1 := hf 1 _ rfl
    have g2 := hf 2 _ rfl
    have c0 : Try.prog.cellsOf 22 = 1 := by kernel_rfl
    have c1 : Try.prog.cellsOf 4 = 1 := by kernel_rfl
    have c2 : Try.prog.cellsOf 25 = 2 := by kernel_rfl
    simp [c0, c1, c2] at g0 g1 g2
    obtain ⟨ao, cap, l, e0, hfl, ha⟩ := rd_ens g0
    obtain ⟨d, e1⟩ := rd_bool Try.underlying4 g1
    obtain ⟨x, e2, hx, hn⟩ := rd_entry g2
    simp [En.cells] at e0 e1 e2
    refine ⟨⟨ao, cap, ⟨l, d, x⟩, ⟨hfl, hx, hn⟩, ha⟩, ?_⟩
    show [v0, v1, v2, v3] = [Value.slice ao l.length cap, .bool d, .string x.a, .int .u64 (x.n : Int)]
    rw [e0, e1, e2.1, e2.2]
end Go.Proofs.Ytfpahdnhnhkcdaa
namespace Go.Proofs.Ytfpahdnhnhkcdaa
open Go.RowKit Go.WideShapes Go.ChangeShapes
set_option maxRecDepth 100000 in
theorem rd_pair {H : Type} {enc : TypeId × Value → H} {w : World} {cs : List Value} (h : Rd enc w 43 cs) : ∃ x : Pr, cs = x.cells ∧ x.n.size ≤ maxLen ∧ x.v.size ≤ maxLen := by
  obtain ⟨hl, hf⟩ := rd_struct Try.underlying43 h
  have hl2 : cs.length = 2 := hl.trans (by kernel_rfl)
  match cs, hl2 with
  | [v0, v1], _ =>
    have g0 := hf 0 _ rfl
    have g1 := hf 1 _ rfl
    have cs' : Try.prog.cellsOf 9 = 1 := by kernel_rfl
    simp [cs'] at g0 g1
    obtain ⟨s, e0, hs⟩ := rd_string Try.underlying9 g0
    obtain ⟨t, e1, ht⟩ := rd_string Try.underlying9 g1
    simp at e0 e1
    subst e0 e1
    exact ⟨⟨s, t⟩, rfl, hs, ht⟩
set_option maxRecDepth 100000 in
theorem rd_prs {H : Type} {enc : TypeId × Value → H} {w : World} {cs : List Value} (h : Rd enc w 28 cs) :
    ∃ (ao : Option Addr) (cap : Nat) (l : List Pr), cs = [.slice ao l.length cap] ∧ FitsP l ∧ PrsAt w ao l := by
  obtain ⟨ao, cap, es, h1, h2, h3, h4⟩ := rd_slice Try.underlying28 (by kernel_rfl : Try.prog.cellsOf 43 = 2) (by decide) h
  have hl : ∀ es : List (List Value), (∀ x ∈ es, ∃ f : Pr, x = f.cells ∧ f.n.size ≤ maxLen ∧ f.v.size ≤ maxLen) → ∃ l : List Pr, es = l.map Pr.cells ∧ ∀ f ∈ l, f.n.size ≤ maxLen ∧ f.v.size ≤ maxLen := by
    intro es
    induction es with
    | nil => exact fun _ => ⟨[], rfl, by simp⟩
    | cons x es ih =>
      intro h
      obtain ⟨a, rfl, ha⟩ := h x (by simp)
      obtain ⟨l, rfl, hl⟩ := ih (fun y hy => h y (by simp [hy]))
      exact ⟨a :: l, rfl, by simp; exact ⟨ha, hl⟩⟩
  obtain ⟨l, rfl, hok⟩ := hl es (fun x hx => rd_pair (h4 x hx))
  refine ⟨ao, cap, l, by simpa using h1, ⟨by simpa using h2, hok⟩, fun i hi => ?_⟩
  obtain ⟨b, off, e1, e2, e3⟩ := h3.cell i (by simpa using hi)
  refine ⟨b, off, e1, ?_, ?_⟩
  · simpa [Pr.cells] using e3 0 (by simp [Pr.cells])
  · simpa [Pr.cells] using e3 1 (by simp [Pr.cells])
theorem rd_cap {H : Type} {enc : TypeId × Value → H} {w : World} {t e : TypeId} {ao : Option Addr} {len cap : Nat} (ht : Try.prog.underlying t = some (.slice e)) (h : Rd enc w t [.slice ao len cap]) : len ≤ cap ∧ cap ≤ maxLen := by
  obtain ⟨fuel, x, h⟩ := h
  rcases Go.Deep.open_slice ht h with ⟨e1, _⟩ | ⟨a, l, c, m, n, D, Pl, e1, _, hl, hm, _⟩
  · cases e1
    exact ⟨Nat.le_refl _, Nat.zero_le _⟩
  · cases e1
    exact ⟨hl, hm⟩
end Go.Proofs.Ytfpahdnhnhkcdaa
