/-
  What this seat's claims lean on of the texts Upg, OldRead, RefOld, Open17.
  Conditions: as each theorem states.
-/
import Derived.WalkKit
import Derived.ProofKit
import Derived.Below
import Derived.Deep.Draws
import Derived.Deep.RegionHeld
import Derived.Test.YtoefibkhlhmlfaaGreatChecked
import Derived.OpenShut
import Derived.ShutString
import Derived.WalkSpells
import Derived.WalkLawsBesides
import Derived.Deep.QuietTactic
import Derived.BigQuiet
import Derived.Laws.Bits64b
import Derived.PlainAid
import Derived.Lib.AppendStr
import Derived.Deep.AppendLies
import Derived.Laws.IdiomStrings
import Derived.Laws.BytesArg
import Derived.Deep.RegionWith
import Derived.Test.YtoefibkhlhmlfaaGreatZ14
import Derived.Test.YtoefibkhlhmlfaaGreatZ15
import Derived.Laws.AppendOwn
import Derived.Deep.DeepAppendWide
import Derived.Deep.Upon
import Derived.Maps.AppendAt
import Derived.Deep.Slices
import Derived.Test.YtoefibkhlhmlfaaGreatZ10
namespace Go.Proofs.YtoefibkhlhmlfaaGreat
open Go.RowKit
def upS (x : Os) : Sb := ⟨⟨x.c, false, zEn⟩, [], x.d, x.v⟩
def dnS (x : Sb) : Os := ⟨x.k.c, x.d, x.v⟩
def oUp (o : Ol) : Ob × Int := if olCheck o = 0 then oSort o.key (o.l.map upS) else (zOb, olCheck o)
def plS (x : Sb) : Bool := !(x.k.d || decide (0 < x.m.length))
def oPlain (o : Ob) : Bool := decide (oCheck o = 0) && o.l.all plS
def oDown (o : Ob) : Ol × Int := if oPlain o = true then (⟨o.key, o.l.map dnS⟩, 0) else (zOl, 1)
def oRead (v : Int) (s : ByteArray) : Ob × Int := if v = 2 then decO s else if v = 1 then (if (decL s).2 = 0 then oUp (decL s).1 else (zOb, (decL s).2)) else (zOb, 10)
theorem kCheck_up {c : List En} (h : vCheck c = 0) : kCheck ⟨c, false, zEn⟩ = 0 := by
  unfold kCheck kDot zEn
  rw [if_pos h, if_neg (show ¬ false = true by decide), if_pos ⟨rfl, rfl⟩]
theorem sCheck_up {x : Os} (h : osCheck x = 0) : sCheck (upS x) = 0 := by
  obtain ⟨h1, h2⟩ := osCheck_zero.1 h
  exact sCheck_zero.2 ⟨kCheck_up h1, rfl, h2⟩
theorem sbU_up {x : Os} (h : osU x) : sbU (upS x) := ⟨h, by show 0 < 18446744073709551616; omega⟩
theorem okClk_up {x : Os} (h : osCheck x = 0) (hu : osU x) : okClk ⟨x.c, false, zEn⟩ := ⟨kCheck_up (osCheck_zero.1 h).1, hu, by show 0 < 18446744073709551616; omega⟩
theorem kb_up {x y : Os} (hx : osCheck x = 0) (ux : osU x) (hy : osCheck y = 0) (uy : osU y) (h : kb (upS x) = kb (upS y)) : x.c = y.c := by
  have h1 := clk_codec.dec_enc (z := zCk) (okClk_up hx ux)
  have h2 := clk_codec.dec_enc (z := zCk) (okClk_up hy uy)
  have h : eClk ⟨x.c, false, zEn⟩ = eClk ⟨y.c, false, zEn⟩ := h
  rw [h, h2] at h1
  exact (congrArg (fun q : Ck × Int => q.1.c) h1).symm
theorem apart_up {l : List Os} (h : ∀ x ∈ l, osCheck x = 0) (u : ∀ x ∈ l, osU x) (hu : Unlike l) : Apart (l.map upS) := by
  unfold Apart
  rw [List.pairwise_map]
  refine List.Pairwise.imp_of_mem (fun {a b} ha hb hab e => ?_) hu
  exact hab (kb_up (h a ha) (u a ha) (h b hb) (u b hb) e)
theorem up_eq {o : Ol} (h : okOl o) : oUp o = (⟨o.key, isort (o.l.map upS)⟩, 0) := by
  obtain ⟨h1, h2, h3⟩ := olCheck_zero.1 h.1
  unfold oUp
  rw [if_pos h.1]
  refine oSort_yes (by rw [List.length_map]; exact h1) (sBad_zero.2 (fun x hx => ?_)) (isort_perm _) (weak_rise (isort_weak _) ((apart_perm (isort_perm _)).2 (apart_up h2 h.2 h3)))
  obtain ⟨y, hy, rfl⟩ := List.mem_map.1 hx
  exact sCheck_up (h2 y hy)
theorem up_perm (l : List Os) : (isort (l.map upS)).Perm (l.map upS) := isort_perm _
theorem up_mem {l : List Os} {x : Sb} (h : x ∈ isort (l.map upS)) : ∃ y ∈ l, upS y = x := List.mem_map.1 ((up_perm l).mem_iff.1 h)
theorem up_ok {o : Ol} (h : okOl o) : okOb (oUp o).1 := by
  have e := up_eq h
  have hg := oSort_good (key := o.key) (l := o.l.map upS) (by
    have : oUp o = oSort o.key (o.l.map upS) := if_pos h.1
    rw [← this, e])
  have : oUp o = oSort o.key (o.l.map upS) := if_pos h.1
  rw [← this] at hg
  refine ⟨hg.1, fun x hx => ?_⟩
  rw [e] at hx
  obtain ⟨y, hy, rfl⟩ := up_mem hx
  exact sbU_up (h.2 y hy)
theorem up_plain {o : Ol} (h : okOl o) : oPlain (oUp o).1 = true := by
  unfold oPlain
  rw [decide_eq_true (up_ok h).1, Bool.true_and, List.all_eq_true]
  intro x hx
  rw [up_eq h] at hx
  obtain ⟨y, _, rfl⟩ := up_mem hx
  rfl
def dnL (o : Ol) : List Os := (isort (o.l.map upS)).map dnS
theorem dnL_perm (o : Ol) : (dnL o).Perm o.l := by
  have h := (up_perm o.l).map dnS
  rw [List.map_map] at h
  have e : o.l.map (dnS ∘ upS) = o.l := by
    have : (dnS ∘ upS) = id := rfl
    rw [this, List.map_id]
  rw [e] at h
  exact h
theorem up_down {o : Ol} (h : okOl o) : oDown (oUp o).1 = (⟨o.key, dnL o⟩, 0) := by
  unfold oDown
  rw [if_pos (up_plain h), up_eq h]
  rfl
theorem unlike_perm {l m : List Os} (h : Unlike l) (p : l.Perm m) : Unlike m := (p.pairwise_iff (fun h e => h e.symm)).1 h
theorem olCheck_perm {key : ByteArray} {l m : List Os} (h : olCheck ⟨key, l⟩ = 0) (p : m.Perm l) : olCheck ⟨key, m⟩ = 0 := by
  obtain ⟨h1, h2, h3⟩ := olCheck_zero.1 h
  have h1 : outS key l.length = 0 := h1
  exact olCheck_zero.2 ⟨by show outS key m.length = 0; rw [p.length_eq]; exact h1, fun x hx => h2 x (p.mem_iff.1 hx), unlike_perm h3 p.symm⟩
theorem alike_perm {key : ByteArray} {l m : List Os} (h : olCheck ⟨key, l⟩ = 0) (p : m.Perm l) : olAlike ⟨key, l⟩ ⟨key, m⟩ = true :=
  olAlike_yes h (olCheck_perm h p) rfl p.length_eq.symm (fun _ hx => p.mem_iff.2 hx)
theorem up_alike {o : Ol} (h : okOl o) : olAlike o ⟨o.key, dnL o⟩ = true := alike_perm (key := o.key) (l := o.l) h.1 (dnL_perm o)
theorem sub_perm {α : Type} : ∀ {l m : List α}, l.Pairwise (fun x y => x ≠ y) → (∀ x ∈ l, x ∈ m) → m.length ≤ l.length → l.Perm m
  | [], m, _, _, h => by
    have : m = [] := List.eq_nil_of_length_eq_zero (Nat.le_zero.1 h)
    subst this
    exact List.Perm.refl _
  | x :: l, m, hd, hs, h => by
    obtain ⟨h1, h2⟩ := List.pairwise_cons.1 hd
    obtain ⟨a, b, rfl⟩ := List.append_of_mem (hs x List.mem_cons_self)
    have hp : (a ++ x :: b).Perm (x :: (a ++ b)) := List.perm_middle
    have ih : l.Perm (a ++ b) := by
      refine sub_perm h2 (fun y hy => ?_) (by rw [List.length_append, List.length_cons] at h; rw [List.length_append]; simp only [List.length_cons] at h; omega)
      have hy2 := hp.mem_iff.1 (hs y (List.mem_cons_of_mem _ hy))
      rcases List.mem_cons.1 hy2 with e | e
      · exact absurd e.symm (h1 y hy)
      · exact e
    exact (ih.cons x).trans hp.symm
theorem alike_iff {o q : Ol} (ho : olCheck o = 0) (hq : olCheck q = 0) : olAlike o q = true ↔ o.key = q.key ∧ o.l.Perm q.l := by
  constructor
  · intro h
    unfold olAlike allOnce at h
    simp only [Bool.and_eq_true, decide_eq_true_eq, List.all_eq_true] at h
    obtain ⟨_, _, h1, h2, h3⟩ := h
    refine ⟨h1, sub_perm ((olCheck_zero.1 ho).2.2.imp (fun h e => h (by rw [e]))) (fun x hx => often_mem (h3 x hx)) (by omega)⟩
  · rintro ⟨h1, h2⟩
    exact olAlike_yes ho hq h1 h2.length_eq (fun _ hx => h2.mem_iff.1 hx)
theorem up_same {o q : Ol} (ho : okOl o) (hq : okOl q) : (oUp o).1 = (oUp q).1 ↔ olAlike o q = true := by
  rw [alike_iff ho.1 hq.1, up_eq ho, up_eq hq]
  constructor
  · intro h
    refine ⟨congrArg Ob.key h, ?_⟩
    have h2 : isort (o.l.map upS) = isort (q.l.map upS) := congrArg Ob.l h
    have h3 : dnL o = dnL q := by unfold dnL; rw [h2]
    exact (dnL_perm o).symm.trans (h3 ▸ dnL_perm q)
  · rintro ⟨h1, h2⟩
    have e := oSort_perm (key := q.key) (l := q.l.map upS) (m := o.l.map upS) (by
      have : oUp q = oSort q.key (q.l.map upS) := if_pos hq.1
      rw [← this, up_eq hq]) (h2.map upS)
    have e1 : oUp o = oSort o.key (o.l.map upS) := if_pos ho.1
    have e2 : oUp q = oSort q.key (q.l.map upS) := if_pos hq.1
    rw [h1] at e1
    rw [e, ← e2, up_eq hq] at e1
    rw [up_eq ho] at e1
    exact congrArg Prod.fst e1
theorem bEncT_size18 (s : ByteArray) (h : s.size < 18446744073709551616) : (bEncT s).size ≤ s.size + 10 := by
  unfold bEncT
  rw [ByteArray.size_append]
  have := (vText_le (n := s.size) h).2
  omega
theorem eSibs_size18 : ∀ {l : List Sb}, (∀ x ∈ l, ∃ y, osCheck y = 0 ∧ osU y ∧ y.v.size ≤ 200 ∧ upS y = x) → (eSibs l).size ≤ 3030 * l.length
  | [], _ => Nat.zero_le _
  | x :: l, h => by
    have h1 := eSibs_size18 (fun y hy => h y (List.mem_cons_of_mem _ hy))
    obtain ⟨y, h2, h3, h4, rfl⟩ := h x List.mem_cons_self
    have h5 := eClk_size (okClk_up h2 h3)
    have h6 := bEncT_size18 y.v (by omega)
    have h7 := (vText_le (n := 0) (by decide)).2
    have e : (eSibs (upS y :: l)).size = ((eClk ⟨y.c, false, zEn⟩).size + (((vText 0).size + 0) + (1 + (bEncT y.v).size))) + (eSibs l).size := by
      show ((eClk ⟨y.c, false, zEn⟩ ++ ((vText 0 ++ ⟨#[]⟩) ++ (eFlag y.d ++ bEncT y.v))) ++ eSibs l).size = _
      rw [ByteArray.size_append, ByteArray.size_append, ByteArray.size_append, ByteArray.size_append, ByteArray.size_append, eFlag_size]
      rfl
    rw [e, List.length_cons]
    omega
theorem up_enc {o : Ol} (h : okOl o) (hv : ∀ x ∈ o.l, x.v.size ≤ 200) : encO (oUp o).1 = (eOb (oUp o).1, 0) ∧ (eOb (oUp o).1).size ≤ 65536 := by
  have hk := up_ok h
  obtain ⟨h1, h2, _⟩ := olCheck_zero.1 h.1
  obtain ⟨_, h3, _, h4⟩ := outS_zero.1 h1
  have hs : (eOb (oUp o).1).size ≤ 65536 := by
    rw [up_eq h]
    have h5 := eSibs_size18 (l := isort (o.l.map upS)) (fun x hx => by
      obtain ⟨y, hy, rfl⟩ := up_mem hx
      exact ⟨y, h2 y hy, h.2 y hy, hv y hy, rfl⟩)
    have hl : (isort (o.l.map upS)).length = o.l.length := by rw [(up_perm o.l).length_eq, List.length_map]
    have h6 := bEncT_size18 o.key (by omega)
    have h7 := (vText_le (n := o.l.length) (by omega)).2
    unfold eOb
    show (bEncT o.key ++ (vText (isort (o.l.map upS)).length ++ eSibs (isort (o.l.map upS)))).size ≤ _
    rw [ByteArray.size_append, ByteArray.size_append, hl]
    rw [hl] at h5
    omega
  refine ⟨?_, hs⟩
  unfold encO
  rw [if_pos hk.1, if_pos (by omega)]
theorem up_back {o : Ol} (h : okOl o) : decO (eOb (oUp o).1) = ((oUp o).1, 0) := ob_codec.dec_enc (z := zOb) (up_ok h)
theorem up_bad {o : Ol} (h : olCheck o ≠ 0) : oUp o = (zOb, olCheck o) := if_neg h
end Go.Proofs.YtoefibkhlhmlfaaGreat
namespace Go.Proofs.YtoefibkhlhmlfaaGreat
open Go.RowKit
theorem flag_bad17 {s : ByteArray} {a x : Int} (h : x ≠ 0) : cAt s a x 1 = a ∧ gErr s a x = x := by
  refine ⟨cAt_bad 1 h, ?_⟩
  have h0 : cByte s a x = 0 := if_neg (fun e => h e.1)
  unfold gErr
  rw [h0, if_neg (by decide), cErr_bad 1 h]
theorem chain17 {s : ByteArray} {A A1 E1 A3 E3 : Int} {c : List En} (hV : rVec s A = (c, A1, E1)) (hA : bAt s (cAt s A1 E1 1) (gErr s A1 E1) 32768 = A3) (hE : bErr s (cAt s A1 E1 1) (gErr s A1 E1) 32768 = E3) :
    (rOs s A).2 = (A3, E3) ∧ (E3 = 0 → rOs s A = (⟨c, gSet s A1 E1, bTxt s (cAt s A1 E1 1) (gErr s A1 E1) 32768⟩, A3, 0)) := by
  by_cases h1 : E1 = 0
  · subst h1
    by_cases h2 : gErr s A1 0 = 0
    · rw [h2] at hA hE ⊢
      by_cases h3 : E3 = 0
      · subst h3
        have h := os_4 hV h2 hE
        rw [hA] at h
        exact ⟨by rw [h], fun _ => h⟩
      · have h := os_3 hV h2 (by rw [hE]; exact h3)
        rw [hA, hE] at h
        exact ⟨by rw [h], fun e => absurd e h3⟩
    · have h := os_2 hV h2
      obtain ⟨_, b2, b3⟩ := b_bad (s := s) (a := cAt s A1 0 1) 32768 h2
      rw [b2] at hA
      rw [b3] at hE
      rw [hA, hE] at h
      exact ⟨by rw [h], fun e => absurd (hE.trans e) h2⟩
  · have h := os_1 (s := s) (a := A) (by rw [hV]; exact h1)
    obtain ⟨f1, f2⟩ := flag_bad17 (s := s) (a := A1) h1
    rw [f1, f2] at hA hE
    obtain ⟨_, b2, b3⟩ := b_bad (s := s) (a := A1) 32768 h1
    rw [b2] at hA
    rw [b3] at hE
    rw [hV, hA, hE] at h
    exact ⟨by rw [h], fun e => absurd (hE.trans e) h1⟩
structure TAt (w : World) (g : Nat) (v0 v1 v2 : Value) : Prop where
  blk : ∃ ty, w.heap[g]? = some (.cells #[v0, v1, v2] ty)
section
variable {w : World} {g : Nat} {v0 v1 v2 : Value}
theorem TAt.lt (h : TAt w g v0 v1 v2) : g < w.heap.size := by
  obtain ⟨ty, hk⟩ := h.blk
  exact (Array.getElem?_eq_some_iff.mp hk).1
theorem TAt.cells (h : TAt w g v0 v1 v2) : w.cell? ⟨g, 0, none⟩ = some v0 ∧ w.cell? ⟨g, 1, none⟩ = some v1 ∧ w.cell? ⟨g, 2, none⟩ = some v2 ∧ w.frozen? ⟨g, 0, none⟩ = false ∧ w.frozen? ⟨g, 1, none⟩ = false ∧ w.frozen? ⟨g, 2, none⟩ = false := by
  obtain ⟨ty, hk⟩ := h.blk
  simp [World.cell?, World.frozen?, hk]
theorem TAt.keep {R : Nat → Prop} {w' : World} (h : TAt w g v0 v1 v2) (K : Keep R w w') (hn : ¬ R g) : TAt w' g v0 v1 v2 := by
  obtain ⟨ty, hk⟩ := h.blk
  exact ⟨ty, by rw [K.block g h.lt hn]; exact hk⟩
theorem TAt.keep0 {w' : World} (h : TAt w g v0 v1 v2) (K : Keep0 w w') : TAt w' g v0 v1 v2 := h.keep K (fun f => f)
theorem TAt.new (w : World) (ty : TypeId) (v0 v1 v2 : Value) : TAt (w.alloc (.cells #[v0, v1, v2] ty)) w.heap.size v0 v1 v2 := ⟨ty, (MapKept.heap_alloc w _).1⟩
theorem TAt.set0 (h : TAt w g v0 v1 v2) (u : Value) : TAt (w.setCell ⟨g, 0, none⟩ u) g u v1 v2 := by
  obtain ⟨ty, hk⟩ := h.blk
  exact ⟨ty, by rw [heap_setCell_at hk]; rfl⟩
theorem TAt.set1 (h : TAt w g v0 v1 v2) (u : Value) : TAt (w.setCell ⟨g, 1, none⟩ u) g v0 u v2 := by
  obtain ⟨ty, hk⟩ := h.blk
  exact ⟨ty, by rw [heap_setCell_at hk]; rfl⟩
theorem TAt.set2 (h : TAt w g v0 v1 v2) (u : Value) : TAt (w.setCell ⟨g, 2, none⟩ u) g v0 v1 u := by
  obtain ⟨ty, hk⟩ := h.blk
  exact ⟨ty, by rw [heap_setCell_at hk]; rfl⟩
end
def LoopL (s : ByteArray) (N k : Nat) (O : List Po) (A E : Int) (R : List Os × Int × Int) : Prop :=
  (E = 0 ∧ O.length = k ∧ R = liftM (O.map Po.x) (rOss (N - k) (O.map Po.x) s A) ∧ ∀ p ∈ O, FitsOs p.x) ∨ (E ≠ 0 ∧ R = ([], A, E))
def InL (O : List Po) (c : List En) (E3 : Int) (k : Nat) (E : Int) : Prop :=
  (E3 ≠ 0 ∧ E = E3) ∨ (E3 = 0 ∧ E = 0 ∧ ∀ q (_ : q < O.length), q < k → O[q].x.c ≠ c) ∨ (E3 = 0 ∧ E = 6 ∧ ∃ q, ∃ _ : q < O.length, O[q].x.c = c)
theorem InL.start (O : List Po) (c : List En) (E3 : Int) : InL O c E3 0 E3 := by
  by_cases h : E3 = 0
  · exact .inr (.inl ⟨h, h, fun q _ hq => absurd hq (Nat.not_lt_zero q)⟩)
  · exact .inl ⟨h, rfl⟩
theorem InL.skip {O : List Po} {c : List En} {E3 E : Int} {k : Nat} (h : InL O c E3 k E) (hE : E ≠ 0) : InL O c E3 (k + 1) E := by
  rcases h with h | ⟨_, h, _⟩ | h
  · exact .inl h
  · exact absurd h hE
  · exact .inr (.inr h)
theorem LoopL.next {s : ByteArray} {N k : Nat} {O : List Po} {A A3 E3 E : Int} {R : List Os × Int × Int} {p : Po} (hk : k < N) (h0 : O.length = k) (hR : R = liftM (O.map Po.x) (rOss (N - k) (O.map Po.x) s A)) (hf : ∀ p ∈ O, FitsOs p.x) (h2 : (rOs s A).2 = (A3, E3)) (h1 : E3 = 0 → rOs s A = (p.x, A3, 0)) (hp : E3 = 0 → FitsOs p.x) (hin : InL O p.x.c E3 k E) : LoopL s N (k + 1) (O ++ [p]) A3 E R := by
  obtain ⟨n, hn⟩ : ∃ n, N - k = n + 1 := ⟨N - k - 1, by omega⟩
  have hn2 : N - (k + 1) = n := by omega
  rw [hn] at hR
  rcases hin with ⟨h3, h4⟩ | ⟨h3, h4, h5⟩ | ⟨h3, h4, q, hq, h5⟩
  · subst h4
    refine .inr ⟨h3, ?_⟩
    rw [hR]
    have e : (rOs s A).2.2 ≠ 0 := by rw [h2]; exact h3
    have := liftM_err (z := zOs) (rd := rOs) (tst := osTest) (nxt := osNext) (n := n) (st := O.map Po.x) (O.map Po.x) e
    rw [h2] at this
    exact this
  · subst h4
    have hr := h1 h3
    have ht : osTest (O.map Po.x) p.x = 0 := osTest_zero.2 (fun y hy => by
      obtain ⟨z, hz, rfl⟩ := List.mem_map.1 hy
      obtain ⟨q, hq, rfl⟩ := List.mem_iff_getElem.1 hz
      exact h5 q hq (by omega))
    refine .inl ⟨rfl, by rw [List.length_append, h0]; rfl, ?_, fun z hz => ?_⟩
    · have := liftM_more (z := zOs) (rd := rOs) (tst := osTest) (nxt := osNext) (n := n) (st := O.map Po.x) (s := s) (a := A) (O.map Po.x) (by rw [hr]) (by rw [hr]; exact ht)
      rw [hr] at this
      rw [hR, hn2, List.map_append]
      exact this
    · rcases List.mem_append.1 hz with hz | hz
      · exact hf z hz
      · rw [List.mem_singleton.1 hz]; exact hp h3
  · subst h4
    have hr := h1 h3
    have ht : osTest (O.map Po.x) p.x = 6 := if_pos (seenIn_iff.2 ⟨O[q].x, List.mem_map.2 ⟨_, List.getElem_mem hq, rfl⟩, h5⟩)
    refine .inr ⟨by decide, ?_⟩
    rw [hR]
    have := liftM_bad (z := zOs) (rd := rOs) (tst := osTest) (nxt := osNext) (n := n) (st := O.map Po.x) (s := s) (a := A) (O.map Po.x) (by rw [hr]) (by rw [hr, ht]; decide)
    rw [hr, ht] at this
    exact this
end Go.Proofs.YtoefibkhlhmlfaaGreat
namespace Go.Proofs.YtoefibkhlhmlfaaGreat
open Go.RowKit
theorem vSameL_eq (a b : List En) : seenIn.vSameL a b = vSame a b := by
  rw [Bool.eq_iff_iff, vSameL_iff, vSame_iff]
set_option maxRecDepth 100000 in
set_option maxHeartbeats 8000000 in
theorem rone17_any (w : World) (vo vo1 : Option Addr) (vc vc1 : Nat) (c c1 : List En) (d d1 : Bool) (v v1 : ByteArray) (fc : Fits c) (fc1 : Fits c1) (hp : EnsAt w vo c) (hq : EnsAt w vo1 c1) :
    Calls Tryz.prog 36 #[.agg #[.slice vo c.length vc, .bool d, .string v], .agg #[.slice vo1 c1.length vc1, .bool d1, .string v1]] w fun e w' => e = .returned (.bool (vSame c c1 && (decide (d = d1) && decide (v = v1)))) ∧ Keep0 w w' := by
  have k1 : Keep0 (w.alloc (.cells #[.slice vo c.length vc, .bool d, .string v] 56)) ((w.alloc (.cells #[.slice vo c.length vc, .bool d, .string v] 56)).alloc (.cells #[.slice vo1 c1.length vc1, .bool d1, .string v1] 56)) := (Keep.refl _ _).alloc _
  have kB : Keep0 w ((w.alloc (.cells #[.slice vo c.length vc, .bool d, .string v] 56)).alloc (.cells #[.slice vo1 c1.length vc1, .bool d1, .string v1] 56)) := ((Keep.refl _ w).alloc _).alloc _
  obtain ⟨a0, a1, a2⟩ := (poAt_new w 56 ⟨⟨c, d, v⟩, vo, vc⟩).keep0 k1
  obtain ⟨b0, b1, b2⟩ := poAt_new (w.alloc (.cells #[.slice vo c.length vc, .bool d, .string v] 56)) 56 ⟨⟨c1, d1, v1⟩, vo1, vc1⟩
  rw [World.size_alloc] at b0 b1 b2
  have ys := rsame10 ((w.alloc (.cells #[.slice vo c.length vc, .bool d, .string v] 56)).alloc (.cells #[.slice vo1 c1.length vc1, .bool d1, .string v1] 56)) vo vo1 vc vc1 c c1 fc.1 fc1.1 (hp.keep0 kB) (hq.keep0 kB)
  have a0 : (((w.alloc (.cells #[.slice vo c.length vc, .bool d, .string v] 56)).alloc (.cells #[.slice vo1 c1.length vc1, .bool d1, .string v1] 56))).cell? ⟨w.heap.size, 0, none⟩ = some (.slice vo c.length vc) := a0
  have a1 : (((w.alloc (.cells #[.slice vo c.length vc, .bool d, .string v] 56)).alloc (.cells #[.slice vo1 c1.length vc1, .bool d1, .string v1] 56))).cell? ⟨w.heap.size, 1, none⟩ = some (.bool d) := by have h := a1; rwa [Nat.zero_add] at h
  have a2 : (((w.alloc (.cells #[.slice vo c.length vc, .bool d, .string v] 56)).alloc (.cells #[.slice vo1 c1.length vc1, .bool d1, .string v1] 56))).cell? ⟨w.heap.size, 2, none⟩ = some (.string v) := by have h := a2; rwa [Nat.zero_add] at h
  have b0 : (((w.alloc (.cells #[.slice vo c.length vc, .bool d, .string v] 56)).alloc (.cells #[.slice vo1 c1.length vc1, .bool d1, .string v1] 56))).cell? ⟨w.heap.size + 1, 0, none⟩ = some (.slice vo1 c1.length vc1) := b0
  have b1 : (((w.alloc (.cells #[.slice vo c.length vc, .bool d, .string v] 56)).alloc (.cells #[.slice vo1 c1.length vc1, .bool d1, .string v1] 56))).cell? ⟨w.heap.size + 1, 1, none⟩ = some (.bool d1) := by have h := b1; rwa [Nat.zero_add] at h
  have b2 : (((w.alloc (.cells #[.slice vo c.length vc, .bool d, .string v] 56)).alloc (.cells #[.slice vo1 c1.length vc1, .bool d1, .string v1] 56))).cell? ⟨w.heap.size + 1, 2, none⟩ = some (.string v1) := by have h := b2; rwa [Nat.zero_add] at h
  clear k1 hp hq fc fc1
  cases hs : vSame c c1 with
  | false =>
    rw [hs] at ys
    go_enter Tryz.func36, Tryz.ntmps36
    go_wp2_with fail
    generalize ((w.alloc (.cells #[.slice vo c.length vc, .bool d, .string v] 56)).alloc (.cells #[.slice vo1 c1.length vc1, .bool d1, .string v1] 56)) = WB at *
    generalize w.heap.size = g at *
    refine ys.mono ?_
    rintro e w3 ⟨rfl, h3⟩
    have k3 := keepN h3
    replace a1 := k3.cell a1 (fun f => f)
    replace a2 := k3.cell a2 (fun f => f)
    replace b1 := k3.cell b1 (fun f => f)
    replace b2 := k3.cell b2 (fun f => f)
    have K3 := kB.trans k3
    clear ys h3 k3 kB a0 b0
    go_wp2
    go_ret
    exact ⟨by simp, K3⟩
  | true =>
    rw [hs] at ys
    by_cases hd : d = d1
    case neg =>
      have e1 : (d == d1) = false := beq_eq_false_iff_ne.2 hd
      go_enter Tryz.func36, Tryz.ntmps36
      go_wp2_with fail
      generalize ((w.alloc (.cells #[.slice vo c.length vc, .bool d, .string v] 56)).alloc (.cells #[.slice vo1 c1.length vc1, .bool d1, .string v1] 56)) = WB at *
      generalize w.heap.size = g at *
      refine ys.mono ?_
      rintro e w3 ⟨rfl, h3⟩
      have k3 := keepN h3
      replace a1 := k3.cell a1 (fun f => f)
      replace a2 := k3.cell a2 (fun f => f)
      replace b1 := k3.cell b1 (fun f => f)
      replace b2 := k3.cell b2 (fun f => f)
      have K3 := kB.trans k3
      clear ys h3 k3 kB a0 b0
      go_wp2
      go_ret
      exact ⟨by simp [hd], K3⟩
    subst hd
    by_cases hv : v = v1
    · subst hv
      go_enter Tryz.func36, Tryz.ntmps36
      go_wp2_with fail
      generalize ((w.alloc (.cells #[.slice vo c.length vc, .bool d, .string v] 56)).alloc (.cells #[.slice vo1 c1.length vc1, .bool d, .string v] 56)) = WB at *
      generalize w.heap.size = g at *
      refine ys.mono ?_
      rintro e w3 ⟨rfl, h3⟩
      have k3 := keepN h3
      replace a1 := k3.cell a1 (fun f => f)
      replace a2 := k3.cell a2 (fun f => f)
      replace b1 := k3.cell b1 (fun f => f)
      replace b2 := k3.cell b2 (fun f => f)
      have K3 := kB.trans k3
      clear ys h3 k3 kB a0 b0
      go_wp2
      go_ret
      exact ⟨by simp, K3⟩
    · obtain ⟨n1, n2, n3⟩ := txt_ne hv
      go_enter Tryz.func36, Tryz.ntmps36
      go_wp2_with fail
      generalize ((w.alloc (.cells #[.slice vo c.length vc, .bool d, .string v] 56)).alloc (.cells #[.slice vo1 c1.length vc1, .bool d, .string v1] 56)) = WB at *
      generalize w.heap.size = g at *
      refine ys.mono ?_
      rintro e w3 ⟨rfl, h3⟩
      have k3 := keepN h3
      replace a1 := k3.cell a1 (fun f => f)
      replace a2 := k3.cell a2 (fun f => f)
      replace b1 := k3.cell b1 (fun f => f)
      replace b2 := k3.cell b2 (fun f => f)
      have K3 := kB.trans k3
      clear ys h3 k3 kB a0 b0
      go_wp2
      go_ret
      exact ⟨by simp [hv], K3⟩
theorem rone17 (w : World) (p q : Po) (fp : FitsOs p.x) (fq : FitsOs q.x) (hp : EnsAt w p.vo p.x.c) (hq : EnsAt w q.vo q.x.c) :
    Calls Tryz.prog 36 #[.agg #[.slice p.vo p.x.c.length p.vc, .bool p.x.d, .string p.x.v], .agg #[.slice q.vo q.x.c.length q.vc, .bool q.x.d, .string q.x.v]] w fun e w' => e = .returned (.bool (osSame p.x q.x)) ∧ Keep0 w w' := by
  have h := rone17_any w p.vo q.vo p.vc q.vc p.x.c q.x.c p.x.d q.x.d p.x.v q.x.v fp.vec fq.vec hp hq
  rw [← vSameL_eq] at h
  exact h
end Go.Proofs.YtoefibkhlhmlfaaGreat
namespace Go.Proofs.YtoefibkhlhmlfaaGreat
open Go.RowKit Go.WideShapes Go.ChangeShapes
theorem rd_bool17 {H : Type} {enc : TypeId × Value → H} {w : World} {t : TypeId} {cs : List Value} (ht : Tryz.prog.underlying t = some .bool) (h : Rd enc w t cs) : ∃ b, cs = [.bool b] := by
  obtain ⟨fuel, x, h⟩ := h
  obtain ⟨n, h1, _⟩ := DataW.trod_bool ht h
  exact ⟨n, h1⟩
theorem rd_cap17 {H : Type} {enc : TypeId × Value → H} {w : World} {t e : TypeId} {ao : Option Addr} {len cap : Nat} (ht : Tryz.prog.underlying t = some (.slice e)) (h : Rd enc w t [.slice ao len cap]) : len ≤ cap ∧ cap ≤ maxLen := by
  obtain ⟨fuel, x, h⟩ := h
  rcases Go.Deep.open_slice ht h with ⟨e1, _⟩ | ⟨a, l, c, m, n, D, Pl, e1, _, hl, hm, _⟩
  · cases e1
    exact ⟨Nat.le_refl _, Nat.zero_le _⟩
  · cases e1
    exact ⟨hl, hm⟩
structure Pol (w : World) where
  p : Po
  fits : FitsOs p.x
  at_ : EnsAt w p.vo p.x.c
set_option maxRecDepth 100000 in
theorem rd_oldsib {H : Type} {enc : TypeId × Value → H} {w : World} {cs : List Value} (h : Rd enc w 56 cs) : ∃ c : Pol w, cs = c.p.cells := by
  obtain ⟨hl, hf⟩ := rd_struct Tryz.underlying56 h
  have hl3 : cs.length = 3 := hl.trans (by kernel_rfl)
  match cs, hl3 with
  | [v0, v1, v2], _ =>
    have g0 := hf 0 _ rfl
    have g1 := hf 1 _ rfl
    have g2 := hf 2 _ rfl
    have c0 : Tryz.prog.cellsOf 54 = 1 := by kernel_rfl
    have c1 : Tryz.prog.cellsOf 4 = 1 := by kernel_rfl
    have c2 : Tryz.prog.cellsOf 9 = 1 := by kernel_rfl
    simp [c0, c1, c2] at g0 g1 g2
    obtain ⟨vo, vc, l, e0, hfl, ha⟩ := rd_ens g0
    obtain ⟨d, e1⟩ := rd_bool17 Tryz.underlying4 g1
    obtain ⟨v, e2, hv⟩ := rd_string Tryz.underlying9 g2
    simp at e0 e1 e2
    refine ⟨⟨⟨⟨l, d, v⟩, vo, vc⟩, ⟨hfl, hv⟩, ha⟩, ?_⟩
    show [v0, v1, v2] = [Value.slice vo l.length vc, .bool d, .string v]
    rw [e0, e1, e2]
set_option maxRecDepth 100000 in
theorem rd_oldsibs {H : Type} {enc : TypeId × Value → H} {w : World} {cs : List Value} (h : Rd enc w 22 cs) :
    ∃ (ao : Option Addr) (cap : Nat) (L : List Po), cs = [.slice ao L.length cap] ∧ L.length ≤ maxLen ∧ (∀ p ∈ L, FitsOs p.x) ∧ PosAt w ao L := by
  obtain ⟨ao, cap, es, h1, h2, h3, h4⟩ := rd_slice Tryz.underlying22 (by kernel_rfl : Tryz.prog.cellsOf 56 = 3) (by decide) h
  have hl : ∀ es : List (List Value), (∀ x ∈ es, ∃ c : Pol w, x = c.p.cells) → ∃ l : List (Pol w), es = l.map (fun c => c.p.cells) := by
    intro es
    induction es with
    | nil => exact fun _ => ⟨[], rfl⟩
    | cons x es ih =>
      intro h
      obtain ⟨a, rfl⟩ := h x (by simp)
      obtain ⟨l, rfl⟩ := ih (fun y hy => h y (by simp [hy]))
      exact ⟨a :: l, rfl⟩
  obtain ⟨l, rfl⟩ := hl es (fun x hx => rd_oldsib (h4 x hx))
  refine ⟨ao, cap, l.map Pol.p, by simpa using h1, by rw [List.length_map]; simpa using h2, ?_, ⟨fun i hi => ?_, ?_⟩⟩
  · intro k hk
    obtain ⟨c, _, rfl⟩ := List.mem_map.1 hk
    exact c.fits
  · have hi' : i < l.length := by simpa using hi
    obtain ⟨b, off, e1, e2, e3⟩ := h3.cell i (by simpa using hi')
    refine ⟨b, off, e1, fun j u hu => ?_⟩
    rw [List.getElem_map] at hu
    match j, hu with
    | 0, hu => cases hu; simpa [Po.cells] using e3 0 (by simp [Po.cells])
    | 1, hu => cases hu; simpa [Po.cells] using e3 1 (by simp [Po.cells])
    | 2, hu => cases hu; simpa [Po.cells] using e3 2 (by simp [Po.cells])
    | j + 3, hu => cases hu
  · intro p hp
    obtain ⟨c, _, rfl⟩ := List.mem_map.1 hp
    exact c.at_
set_option maxRecDepth 100000 in
theorem open_old {H : Type} {enc : TypeId × Value → H} {W : World} {base : Nat} {v : Value} {d : DataW H} {p : List MemPlace}
    (hv : Value.okWide Tryz.prog W .any base 24 v) (h : DataW.Trod enc Tryz.prog W 0 (fun _ => true) true 24 v d p) :
    ∃ (key : ByteArray) (ao : Option Addr) (cap : Nat) (L : List Po), v = .agg #[.string key, .slice ao L.length cap] ∧ key.size ≤ maxLen ∧ L.length ≤ maxLen ∧ (L.length ≤ cap ∧ cap ≤ maxLen) ∧ (∀ p ∈ L, FitsOs p.x) ∧ PosAt W ao L := by
  unfold Value.okWide at hv
  rw [Tryz.underlying24] at hv
  obtain ⟨cs, rfl, _, _⟩ := hv
  obtain ⟨hl, hf⟩ := rd_struct Tryz.underlying24 (rd_of_trod h)
  have hcs : ∃ cl : List Value, cs.toList = cl := ⟨_, rfl⟩
  obtain ⟨cl, hcl⟩ := hcs
  have hl2 : cl.length = 2 := by rw [← hcl]; exact hl.trans (by kernel_rfl)
  match cl, hl2 with
  | [v0, v1], _ =>
    have g0 := hf 0 _ rfl
    have g1 := hf 1 _ rfl
    have c0 : Tryz.prog.cellsOf 9 = 1 := by kernel_rfl
    have c1 : Tryz.prog.cellsOf 22 = 1 := by kernel_rfl
    have hcc : (Value.agg cs).cells.toList = [v0, v1] := hcl
    simp [c0, c1, hcc] at g0 g1
    obtain ⟨k, e0, hk⟩ := rd_string Tryz.underlying9 g0
    obtain ⟨ao, cap, L, e1, hl1, hfl, ha⟩ := rd_oldsibs g1
    have hcap := rd_cap17 Tryz.underlying22 (by rw [← e1]; exact g1)
    simp at e0 e1
    refine ⟨k, ao, cap, L, ?_, hk, hl1, hcap, hfl, ha⟩
    have h4 : cs = #[.string k, .slice ao L.length cap] := Array.toList_inj.1 (by rw [hcl, e0, e1])
    rw [h4]
end Go.Proofs.YtoefibkhlhmlfaaGreat
