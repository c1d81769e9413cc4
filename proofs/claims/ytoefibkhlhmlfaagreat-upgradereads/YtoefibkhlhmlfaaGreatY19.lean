/-
  What this seat's claims lean on of the texts Upg, OldRead, RefOld2.
  Conditions: as each theorem states.
-/
import Derived.WalkKit
import Derived.ProofKit
import Derived.Below
import Derived.Deep.Draws
import Derived.Deep.RegionHeld
import Derived.Test.YtoefibkhlhmlfaaGreatChecked
import Derived.OpenShut
import Derived.ShutString
import Derived.WalkSpells
import Derived.WalkLawsBesides
import Derived.Deep.QuietTactic
import Derived.BigQuiet
import Derived.Laws.Bits64b
import Derived.PlainAid
import Derived.Lib.AppendStr
import Derived.Deep.AppendLies
import Derived.Laws.IdiomStrings
import Derived.Laws.BytesArg
import Derived.Deep.RegionWith
import Derived.Test.YtoefibkhlhmlfaaGreatY15
import Derived.Test.YtoefibkhlhmlfaaGreatY17
import Derived.Laws.AppendOwn
import Derived.Deep.DeepAppendWide
import Derived.Deep.Upon
import Derived.Maps.AppendAt
import Derived.Deep.Slices
import Derived.Test.YtoefibkhlhmlfaaGreatY11
namespace Go.Proofs.YtoefibkhlhmlfaaGreat
open Go.RowKit
def upS (x : Os) : Sb := ⟨⟨x.c, false, zEn⟩, [], x.d, x.v⟩
def oUp (o : Ol) : Ob × Int := if olCheck o = 0 then oSort o.key (o.l.map upS) else (zOb, olCheck o)
def oRead (v : Int) (s : ByteArray) : Ob × Int := if v = 2 then decO s else if v = 1 then (if (decL s).2 = 0 then oUp (decL s).1 else (zOb, (decL s).2)) else (zOb, 10)
theorem kCheck_up {c : List En} (h : vCheck c = 0) : kCheck ⟨c, false, zEn⟩ = 0 := by
  unfold kCheck kDot zEn
  rw [if_pos h, if_neg (show ¬ false = true by decide), if_pos ⟨rfl, rfl⟩]
theorem sCheck_up {x : Os} (h : osCheck x = 0) : sCheck (upS x) = 0 := by
  obtain ⟨h1, h2⟩ := osCheck_zero.1 h
  exact sCheck_zero.2 ⟨kCheck_up h1, rfl, h2⟩
theorem sbU_up {x : Os} (h : osU x) : sbU (upS x) := ⟨h, by show 0 < 18446744073709551616; omega⟩
theorem okClk_up {x : Os} (h : osCheck x = 0) (hu : osU x) : okClk ⟨x.c, false, zEn⟩ := ⟨kCheck_up (osCheck_zero.1 h).1, hu, by show 0 < 18446744073709551616; omega⟩
theorem kb_up {x y : Os} (hx : osCheck x = 0) (ux : osU x) (hy : osCheck y = 0) (uy : osU y) (h : kb (upS x) = kb (upS y)) : x.c = y.c := by
  have h1 := clk_codec.dec_enc (z := zCk) (okClk_up hx ux)
  have h2 := clk_codec.dec_enc (z := zCk) (okClk_up hy uy)
  have h : eClk ⟨x.c, false, zEn⟩ = eClk ⟨y.c, false, zEn⟩ := h
  rw [h, h2] at h1
  exact (congrArg (fun q : Ck × Int => q.1.c) h1).symm
theorem apart_up {l : List Os} (h : ∀ x ∈ l, osCheck x = 0) (u : ∀ x ∈ l, osU x) (hu : Unlike l) : Apart (l.map upS) := by
  unfold Apart
  rw [List.pairwise_map]
  refine List.Pairwise.imp_of_mem (fun {a b} ha hb hab e => ?_) hu
  exact hab (kb_up (h a ha) (u a ha) (h b hb) (u b hb) e)
theorem up_eq {o : Ol} (h : okOl o) : oUp o = (⟨o.key, isort (o.l.map upS)⟩, 0) := by
  obtain ⟨h1, h2, h3⟩ := olCheck_zero.1 h.1
  unfold oUp
  rw [if_pos h.1]
  refine oSort_yes (by rw [List.length_map]; exact h1) (sBad_zero.2 (fun x hx => ?_)) (isort_perm _) (weak_rise (isort_weak _) ((apart_perm (isort_perm _)).2 (apart_up h2 h.2 h3)))
  obtain ⟨y, hy, rfl⟩ := List.mem_map.1 hx
  exact sCheck_up (h2 y hy)
theorem up_perm (l : List Os) : (isort (l.map upS)).Perm (l.map upS) := isort_perm _
theorem up_mem {l : List Os} {x : Sb} (h : x ∈ isort (l.map upS)) : ∃ y ∈ l, upS y = x := List.mem_map.1 ((up_perm l).mem_iff.1 h)
theorem up_ok {o : Ol} (h : okOl o) : okOb (oUp o).1 := by
  have e := up_eq h
  have hg := oSort_good (key := o.key) (l := o.l.map upS) (by
    have : oUp o = oSort o.key (o.l.map upS) := if_pos h.1
    rw [← this, e])
  have : oUp o = oSort o.key (o.l.map upS) := if_pos h.1
  rw [← this] at hg
  refine ⟨hg.1, fun x hx => ?_⟩
  rw [e] at hx
  obtain ⟨y, hy, rfl⟩ := up_mem hx
  exact sbU_up (h.2 y hy)
theorem up_bad {o : Ol} (h : olCheck o ≠ 0) : oUp o = (zOb, olCheck o) := if_neg h
end Go.Proofs.YtoefibkhlhmlfaaGreat
namespace Go.Proofs.YtoefibkhlhmlfaaGreat
open Go.RowKit
theorem flag_bad17 {s : ByteArray} {a x : Int} (h : x ≠ 0) : cAt s a x 1 = a ∧ gErr s a x = x := by
  refine ⟨cAt_bad 1 h, ?_⟩
  have h0 : cByte s a x = 0 := if_neg (fun e => h e.1)
  unfold gErr
  rw [h0, if_neg (by decide), cErr_bad 1 h]
theorem chain17 {s : ByteArray} {A A1 E1 A3 E3 : Int} {c : List En} (hV : rVec s A = (c, A1, E1)) (hA : bAt s (cAt s A1 E1 1) (gErr s A1 E1) 32768 = A3) (hE : bErr s (cAt s A1 E1 1) (gErr s A1 E1) 32768 = E3) :
    (rOs s A).2 = (A3, E3) ∧ (E3 = 0 → rOs s A = (⟨c, gSet s A1 E1, bTxt s (cAt s A1 E1 1) (gErr s A1 E1) 32768⟩, A3, 0)) := by
  by_cases h1 : E1 = 0
  · subst h1
    by_cases h2 : gErr s A1 0 = 0
    · rw [h2] at hA hE ⊢
      by_cases h3 : E3 = 0
      · subst h3
        have h := os_4 hV h2 hE
        rw [hA] at h
        exact ⟨by rw [h], fun _ => h⟩
      · have h := os_3 hV h2 (by rw [hE]; exact h3)
        rw [hA, hE] at h
        exact ⟨by rw [h], fun e => absurd e h3⟩
    · have h := os_2 hV h2
      obtain ⟨_, b2, b3⟩ := b_bad (s := s) (a := cAt s A1 0 1) 32768 h2
      rw [b2] at hA
      rw [b3] at hE
      rw [hA, hE] at h
      exact ⟨by rw [h], fun e => absurd (hE.trans e) h2⟩
  · have h := os_1 (s := s) (a := A) (by rw [hV]; exact h1)
    obtain ⟨f1, f2⟩ := flag_bad17 (s := s) (a := A1) h1
    rw [f1, f2] at hA hE
    obtain ⟨_, b2, b3⟩ := b_bad (s := s) (a := A1) 32768 h1
    rw [b2] at hA
    rw [b3] at hE
    rw [hV, hA, hE] at h
    exact ⟨by rw [h], fun e => absurd (hE.trans e) h1⟩
structure TAt (w : World) (g : Nat) (v0 v1 v2 : Value) : Prop where
  blk : ∃ ty, w.heap[g]? = some (.cells #[v0, v1, v2] ty)
section
variable {w : World} {g : Nat} {v0 v1 v2 : Value}
theorem TAt.lt (h : TAt w g v0 v1 v2) : g < w.heap.size := by
  obtain ⟨ty, hk⟩ := h.blk
  exact (Array.getElem?_eq_some_iff.mp hk).1
theorem TAt.cells (h : TAt w g v0 v1 v2) : w.cell? ⟨g, 0, none⟩ = some v0 ∧ w.cell? ⟨g, 1, none⟩ = some v1 ∧ w.cell? ⟨g, 2, none⟩ = some v2 ∧ w.frozen? ⟨g, 0, none⟩ = false ∧ w.frozen? ⟨g, 1, none⟩ = false ∧ w.frozen? ⟨g, 2, none⟩ = false := by
  obtain ⟨ty, hk⟩ := h.blk
  simp [World.cell?, World.frozen?, hk]
theorem TAt.keep {R : Nat → Prop} {w' : World} (h : TAt w g v0 v1 v2) (K : Keep R w w') (hn : ¬ R g) : TAt w' g v0 v1 v2 := by
  obtain ⟨ty, hk⟩ := h.blk
  exact ⟨ty, by rw [K.block g h.lt hn]; exact hk⟩
theorem TAt.keep0 {w' : World} (h : TAt w g v0 v1 v2) (K : Keep0 w w') : TAt w' g v0 v1 v2 := h.keep K (fun f => f)
theorem TAt.new (w : World) (ty : TypeId) (v0 v1 v2 : Value) : TAt (w.alloc (.cells #[v0, v1, v2] ty)) w.heap.size v0 v1 v2 := ⟨ty, (MapKept.heap_alloc w _).1⟩
theorem TAt.set0 (h : TAt w g v0 v1 v2) (u : Value) : TAt (w.setCell ⟨g, 0, none⟩ u) g u v1 v2 := by
  obtain ⟨ty, hk⟩ := h.blk
  exact ⟨ty, by rw [heap_setCell_at hk]; rfl⟩
theorem TAt.set1 (h : TAt w g v0 v1 v2) (u : Value) : TAt (w.setCell ⟨g, 1, none⟩ u) g v0 u v2 := by
  obtain ⟨ty, hk⟩ := h.blk
  exact ⟨ty, by rw [heap_setCell_at hk]; rfl⟩
theorem TAt.set2 (h : TAt w g v0 v1 v2) (u : Value) : TAt (w.setCell ⟨g, 2, none⟩ u) g v0 v1 u := by
  obtain ⟨ty, hk⟩ := h.blk
  exact ⟨ty, by rw [heap_setCell_at hk]; rfl⟩
end
def LoopL (s : ByteArray) (N k : Nat) (O : List Po) (A E : Int) (R : List Os × Int × Int) : Prop :=
  (E = 0 ∧ O.length = k ∧ R = liftM (O.map Po.x) (rOss (N - k) (O.map Po.x) s A) ∧ ∀ p ∈ O, FitsOs p.x) ∨ (E ≠ 0 ∧ R = ([], A, E))
def InL (O : List Po) (c : List En) (E3 : Int) (k : Nat) (E : Int) : Prop :=
  (E3 ≠ 0 ∧ E = E3) ∨ (E3 = 0 ∧ E = 0 ∧ ∀ q (_ : q < O.length), q < k → O[q].x.c ≠ c) ∨ (E3 = 0 ∧ E = 6 ∧ ∃ q, ∃ _ : q < O.length, O[q].x.c = c)
theorem InL.start (O : List Po) (c : List En) (E3 : Int) : InL O c E3 0 E3 := by
  by_cases h : E3 = 0
  · exact .inr (.inl ⟨h, h, fun q _ hq => absurd hq (Nat.not_lt_zero q)⟩)
  · exact .inl ⟨h, rfl⟩
theorem InL.skip {O : List Po} {c : List En} {E3 E : Int} {k : Nat} (h : InL O c E3 k E) (hE : E ≠ 0) : InL O c E3 (k + 1) E := by
  rcases h with h | ⟨_, h, _⟩ | h
  · exact .inl h
  · exact absurd h hE
  · exact .inr (.inr h)
theorem InL.no {O : List Po} {c : List En} {E3 : Int} {k : Nat} (h : InL O c E3 k 0) (hk : k < O.length) (hc : O[k].x.c ≠ c) : InL O c E3 (k + 1) 0 := by
  rcases h with ⟨h1, h2⟩ | ⟨h1, _, h3⟩ | ⟨_, h2, _⟩
  · exact absurd h2.symm h1
  · refine .inr (.inl ⟨h1, rfl, fun q hq h4 => ?_⟩)
    by_cases e : q = k
    · subst e; exact hc
    · exact h3 q hq (by omega)
  · exact absurd h2 (by decide)
theorem InL.yes {O : List Po} {c : List En} {E3 : Int} {k : Nat} (h : InL O c E3 k 0) (hk : k < O.length) (hc : O[k].x.c = c) : InL O c E3 (k + 1) 6 := by
  rcases h with ⟨h1, h2⟩ | ⟨h1, _, _⟩ | ⟨_, h2, _⟩
  · exact absurd h2.symm h1
  · exact .inr (.inr ⟨h1, rfl, k, hk, hc⟩)
  · exact absurd h2 (by decide)
theorem LoopL.next {s : ByteArray} {N k : Nat} {O : List Po} {A A3 E3 E : Int} {R : List Os × Int × Int} {p : Po} (hk : k < N) (h0 : O.length = k) (hR : R = liftM (O.map Po.x) (rOss (N - k) (O.map Po.x) s A)) (hf : ∀ p ∈ O, FitsOs p.x) (h2 : (rOs s A).2 = (A3, E3)) (h1 : E3 = 0 → rOs s A = (p.x, A3, 0)) (hp : E3 = 0 → FitsOs p.x) (hin : InL O p.x.c E3 k E) : LoopL s N (k + 1) (O ++ [p]) A3 E R := by
  obtain ⟨n, hn⟩ : ∃ n, N - k = n + 1 := ⟨N - k - 1, by omega⟩
  have hn2 : N - (k + 1) = n := by omega
  rw [hn] at hR
  rcases hin with ⟨h3, h4⟩ | ⟨h3, h4, h5⟩ | ⟨h3, h4, q, hq, h5⟩
  · subst h4
    refine .inr ⟨h3, ?_⟩
    rw [hR]
    have e : (rOs s A).2.2 ≠ 0 := by rw [h2]; exact h3
    have := liftM_err (z := zOs) (rd := rOs) (tst := osTest) (nxt := osNext) (n := n) (st := O.map Po.x) (O.map Po.x) e
    rw [h2] at this
    exact this
  · subst h4
    have hr := h1 h3
    have ht : osTest (O.map Po.x) p.x = 0 := osTest_zero.2 (fun y hy => by
      obtain ⟨z, hz, rfl⟩ := List.mem_map.1 hy
      obtain ⟨q, hq, rfl⟩ := List.mem_iff_getElem.1 hz
      exact h5 q hq (by omega))
    refine .inl ⟨rfl, by rw [List.length_append, h0]; rfl, ?_, fun z hz => ?_⟩
    · have := liftM_more (z := zOs) (rd := rOs) (tst := osTest) (nxt := osNext) (n := n) (st := O.map Po.x) (s := s) (a := A) (O.map Po.x) (by rw [hr]) (by rw [hr]; exact ht)
      rw [hr] at this
      rw [hR, hn2, List.map_append]
      exact this
    · rcases List.mem_append.1 hz with hz | hz
      · exact hf z hz
      · rw [List.mem_singleton.1 hz]; exact hp h3
  · subst h4
    have hr := h1 h3
    have ht : osTest (O.map Po.x) p.x = 6 := if_pos (seenIn_iff.2 ⟨O[q].x, List.mem_map.2 ⟨_, List.getElem_mem hq, rfl⟩, h5⟩)
    refine .inr ⟨by decide, ?_⟩
    rw [hR]
    have := liftM_bad (z := zOs) (rd := rOs) (tst := osTest) (nxt := osNext) (n := n) (st := O.map Po.x) (s := s) (a := A) (O.map Po.x) (by rw [hr]) (by rw [hr, ht]; decide)
    rw [hr, ht] at this
    exact this
end Go.Proofs.YtoefibkhlhmlfaaGreat
namespace Go.Proofs.YtoefibkhlhmlfaaGreat
open Go.RowKit
theorem mSt_os : ∀ (l seen : List Os), mSt osNext seen l = seen ++ l
  | [], seen => by rw [List.append_nil]; rfl
  | x :: l, seen => by
    show mSt osNext (osNext seen x) l = _
    rw [mSt_os l (osNext seen x)]
    unfold osNext
    rw [List.append_assoc]
    rfl
theorem olGo_drop {l : List Os} {k : Nat} (h : k < l.length) : mGo osOne osNext (l.take k) (l.drop k) = if osOne (l.take k) l[k] = 0 then mGo osOne osNext (l.take (k + 1)) (l.drop (k + 1)) else osOne (l.take k) l[k] := by
  have := mGo_drop (tst := osOne) (nxt := osNext) (st := []) h
  rw [mSt_os, mSt_os, List.nil_append, List.nil_append] at this
  exact this
set_option maxRecDepth 100000 in
set_option maxHeartbeats 8000000 in
theorem rcheck17 (w : World) (key : ByteArray) (hk : key.size ≤ maxLen) (ao : Option Addr) (cap : Nat) (LP : List Po) (hl : LP.length ≤ maxLen) (hf : ∀ p ∈ LP, FitsOs p.x) (hc : PosAt w ao LP) :
    Calls Tryz.prog 17 #[.agg #[.string key, .slice ao LP.length cap]] w fun e w' => e = .returned (.int .i64 (olCheck ⟨key, LP.map Po.x⟩)) ∧ Keep0 w w' := by
  have i0 : (key.size : Int) ≤ 9223372036854775807 := by unfold maxLen at hk; omega
  have i1 : (LP.length : Int) ≤ 9223372036854775807 := by unfold maxLen at hl; omega
  have kA : Keep0 w (w.alloc (.cells #[.string key, .slice ao LP.length cap] 24)) := (Keep.refl _ w).alloc _
  have hX := DAt.new w 24 (.string key) (.slice ao LP.length cap)
  have HC : Hid (PosAt w ao LP) := hc
  have HF : Hid (∀ p ∈ LP, FitsOs p.x) := hf
  clear hc hf
  have hg : olCheck ⟨key, LP.map Po.x⟩ = if outS key LP.length = 0 then mGo osOne osNext [] (LP.map Po.x) else outS key LP.length := by
    unfold olCheck
    rw [show (⟨key, LP.map Po.x⟩ : Ol).l.length = LP.length from List.length_map ..]
  rw [hg]
  clear hg
  by_cases h1 : 128 < key.size
  · have j1 : (128 : Int) < key.size := by omega
    rw [show outS key LP.length = 3 from if_pos h1]
    rw [if_neg (show ¬ (3 : Int) = 0 by decide)]
    obtain ⟨x0, x1, xf0, xf1⟩ := hX.cells
    clear hX h1
    go_enter Tryz.func17, Tryz.ntmps17
    go_wp2
    go_ret
    exact ⟨rfl, kA⟩
  have j1 : ¬ (128 : Int) < key.size := by omega
  by_cases h2 : key.size = 0
  · have j2 : (key.size : Int) = 0 := by omega
    rw [show outS key LP.length = 14 from (if_neg h1).trans (if_pos h2)]
    rw [if_neg (show ¬ (14 : Int) = 0 by decide)]
    obtain ⟨x0, x1, xf0, xf1⟩ := hX.cells
    clear hX h2
    go_enter Tryz.func17, Tryz.ntmps17
    go_wp2
    go_ret
    exact ⟨rfl, kA⟩
  have j2 : ((key.size : Int) == 0) = false := beq_eq_false_iff_ne.2 (by omega)
  have j2' : ¬ (key.size : Int) = 0 := by omega
  by_cases h3 : 16 < LP.length
  · have j3 : (16 : Int) < LP.length := by omega
    rw [show outS key LP.length = 3 from (if_neg h1).trans ((if_neg h2).trans (if_pos h3))]
    rw [if_neg (show ¬ (3 : Int) = 0 by decide)]
    obtain ⟨x0, x1, xf0, xf1⟩ := hX.cells
    clear hX h3
    go_enter Tryz.func17, Tryz.ntmps17
    go_wp2
    go_ret
    exact ⟨rfl, kA⟩
  have j3 : ¬ (16 : Int) < LP.length := by omega
  by_cases h4 : LP.length = 0
  · have j4 : (LP.length : Int) = 0 := by omega
    rw [show outS key LP.length = 7 from (if_neg h1).trans ((if_neg h2).trans ((if_neg h3).trans (if_pos h4)))]
    rw [if_neg (show ¬ (7 : Int) = 0 by decide)]
    obtain ⟨x0, x1, xf0, xf1⟩ := hX.cells
    clear hX h4
    go_enter Tryz.func17, Tryz.ntmps17
    go_wp2
    go_ret
    exact ⟨rfl, kA⟩
  have j4 : ((LP.length : Int) == 0) = false := beq_eq_false_iff_ne.2 (by omega)
  have j4' : ¬ (LP.length : Int) = 0 := by omega
  have ho : outS key LP.length = 0 := (if_neg h1).trans ((if_neg h2).trans ((if_neg h3).trans (if_neg h4)))
  rw [if_pos ho]
  obtain ⟨r, hr⟩ : ∃ r, mGo osOne osNext [] (LP.map Po.x) = r := ⟨_, rfl⟩
  rw [hr]
  have HR : Hid (mGo osOne osNext ((LP.map Po.x).take 0) ((LP.map Po.x).drop 0) = r) := by show _ = _; rw [List.drop_zero, List.take_zero]; exact hr
  have Hlen : Hid ((LP.map Po.x).length = LP.length) := List.length_map ..
  clear hr h1 h2 h3 h4 ho
  obtain ⟨x0, x1, xf0, xf1⟩ := hX.cells
  go_enter Tryz.func17, Tryz.ntmps17
  go_wp2_with fail
  generalize (w.alloc (.cells #[.string key, .slice ao LP.length cap] 24)) = W0 at *
  generalize w.heap.size = g at *
  have HX0 : Hid (DAt W0 g (.string key) (.slice ao LP.length cap)) := hX
  have HK0 : Hid (Keep0 w W0) := kA
  clear x0 x1 xf0 xf1 hX kA
  go_loopw [3] (fun v wr => ∃ (i : Nat), v = .int .i64 (i : Int) ∧ i ≤ LP.length ∧ Hid (mGo osOne osNext ((LP.map Po.x).take i) ((LP.map Po.x).drop i) = r) ∧ Hid (DAt wr g (.string key) (.slice ao LP.length cap)) ∧ Hid (Keep0 w wr)) (fun v _ => LP.length - (intOf v).toNat)
  case atStart => exact ⟨0, rfl, Nat.zero_le _, HR, HX0, HK0⟩
  case round =>
    obtain ⟨i, rfl, hi, HRi, HXi, HKi⟩ := hrel
    clear HR HX0 HK0
    obtain ⟨x0, x1, xf0, xf1⟩ := HXi.out.cells
    by_cases hlt : i < LP.length
    · have j5 : (i : Int) < LP.length := by omega
      obtain ⟨b, off, eao, s1, s2⟩ := (HC.out.keep0 HKi.out).at_ i hlt
      subst eao
      have hfi := HF.out _ (List.getElem_mem hlt)
      obtain ⟨c0, c1, c2⟩ := s1
      have yc := rcheck10 wr LP[i].vo LP[i].vc LP[i].x.c hfi.vec s2
      have hv : (LP[i].x.v.size : Int) ≤ 9223372036854775807 := by have := hfi.val; unfold maxLen at this; omega
      have hd := HRi.out
      rw [olGo_drop (by rw [Hlen.out]; exact hlt), List.getElem_map] at hd
      clear s2 hfi HRi
      by_cases h1 : vCheck LP[i].x.c = 0
      case neg =>
        have e1 : osOne ((LP.map Po.x).take i) LP[i].x = vCheck LP[i].x.c := by
          have : osCheck LP[i].x = vCheck LP[i].x.c := if_neg h1
          unfold osOne
          rw [this, if_neg h1]
        rw [e1, if_neg h1] at hd
        have HD : Hid (vCheck LP[i].x.c = r) := hd
        have e0 : (vCheck LP[i].x.c != 0) = true := by simpa using h1
        clear hd h1 e1
        generalize vCheck LP[i].x.c = C at *
        generalize LP[i] = P at *
        go_wp2_with fail
        refine yc.mono ?_
        rintro e w1 ⟨rfl, h1⟩
        have K1 := HKi.out.trans (keepN h1)
        clear yc h1
        go_wp2
        go_ret
        exact ⟨by first | (rw [← HD.out]; rfl) | rw [← HD.out], K1⟩
      rw [h1] at yc
      by_cases h2 : 32768 < LP[i].x.v.size
      · have e1 : osOne ((LP.map Po.x).take i) LP[i].x = 3 := by
          have : osCheck LP[i].x = 3 := by unfold osCheck; rw [if_pos h1, if_pos h2]
          unfold osOne
          rw [this, if_neg (by decide)]
        rw [e1, if_neg (by decide)] at hd
        have HD : Hid (3 = r) := hd
        have j6 : (32768 : Int) < LP[i].x.v.size := by omega
        clear hd h1 e1 h2
        generalize LP[i] = P at *
        go_wp2_with fail
        refine yc.mono ?_
        rintro e w1 ⟨rfl, h1⟩
        have k1 := keepN h1
        have K1 := HKi.out.trans k1
        replace x0 := k1.cell x0 (fun f => f)
        replace x1 := k1.cell x1 (fun f => f)
        replace c2 := k1.cell c2 (fun f => f)
        clear yc h1 k1
        go_wp2
        go_ret
        exact ⟨by first | (rw [← HD.out]; rfl) | rw [← HD.out], K1⟩
      have j6 : ¬ (32768 : Int) < LP[i].x.v.size := by omega
      have hck : osCheck LP[i].x = 0 := osCheck_zero.2 ⟨h1, by omega⟩
      have e1 : osOne ((LP.map Po.x).take i) LP[i].x = osTest ((LP.map Po.x).take i) LP[i].x := if_pos hck
      rw [e1] at hd
      have HD : Hid ((if osTest ((LP.map Po.x).take i) LP[i].x = 0 then mGo osOne osNext ((LP.map Po.x).take (i + 1)) ((LP.map Po.x).drop (i + 1)) else osTest ((LP.map Po.x).take i) LP[i].x) = r) := hd
      clear hd h1 e1 h2 hck
      obtain ⟨wo, ewo⟩ : ∃ z : World, z = wr := ⟨wr, rfl⟩
      subst ewo
      have hil : i ≤ 16 := by omega
      go_wp2_with fail
      refine yc.mono ?_
      rintro e w1 ⟨rfl, h1⟩
      have k1 := keepN h1
      have HK1 : Hid (Keep0 w w1) := HKi.out.trans k1
      have HX1 : Hid (DAt w1 g (.string key) (.slice (some ⟨b, off, none⟩) LP.length cap)) := HXi.out.keep0 k1
      replace x0 := k1.cell x0 (fun f => f)
      replace x1 := k1.cell x1 (fun f => f)
      replace c0 := k1.cell c0 (fun f => f)
      replace c2 := k1.cell c2 (fun f => f)
      clear yc h1 k1 HKi HXi c1 xf0 xf1
      go_wp2_with fail
      clear x0 x1 c0 c2
      go_loopw [5] (fun v wr => ∃ (k : Nat), v = .int .i64 (k : Int) ∧ k ≤ i ∧ Hid (∀ q (_ : q < LP.length) (_ : i < LP.length), q < k → LP[q].x.c ≠ LP[i].x.c) ∧ Hid (DAt wr g (.string key) (.slice (some ⟨b, off, none⟩) LP.length cap)) ∧ Hid (Keep0 w wr)) (fun v _ => i - (intOf v).toNat)
      case atStart => exact ⟨0, rfl, Nat.zero_le _, (fun _ _ _ h => absurd h (Nat.not_lt_zero _)), HX1, HK1⟩
      case round =>
        obtain ⟨k, rfl, hki, HQ, HXk, HKk⟩ := hrel
        clear HX1 HK1
        obtain ⟨x0, x1, xf0, xf1⟩ := HXk.out.cells
        by_cases hkl : k < i
        · have j7 : (k : Int) < i := by omega
          have j8 : (k : Int) < LP.length := by omega
          have hkL : k < LP.length := by omega
          obtain ⟨b1, o1, e1, s1, s2⟩ := (HC.out.keep0 HKk.out).at_ i hlt
          cases e1
          obtain ⟨b2, o2, e2, s3, s4⟩ := (HC.out.keep0 HKk.out).at_ k hkL
          cases e2
          obtain ⟨c0, c1, c2⟩ := s1
          obtain ⟨d0, d1, d2⟩ := s3
          have hfi := HF.out _ (List.getElem_mem hlt)
          have hfk := HF.out _ (List.getElem_mem hkL)
          have HS2 : Hid (EnsAt wr LP[i].vo LP[i].x.c) := s2
          have HS4 : Hid (EnsAt wr LP[k].vo LP[k].x.c) := s4
          have ysm := fun W (K : Keep0 wr W) => rsame10 W LP[k].vo LP[i].vo LP[k].vc LP[i].vc LP[k].x.c LP[i].x.c hfk.vec.1 hfi.vec.1 (HS4.out.keep0 K) (HS2.out.keep0 K)
          have HVt : Hid (vSame LP[k].x.c LP[i].x.c = true → 6 = r) := by
            intro hs
            have h := HD.out
            have ht : osTest ((LP.map Po.x).take i) LP[i].x = 6 := by
              refine if_pos (seenIn_iff.2 ⟨LP[k].x, ?_, vSame_iff.1 hs⟩)
              refine List.mem_iff_getElem.2 ⟨k, by rw [List.length_take, Hlen.out]; omega, ?_⟩
              rw [List.getElem_take, List.getElem_map]
            rw [ht, if_neg (by decide)] at h
            exact h
          have HVf : Hid (vSame LP[k].x.c LP[i].x.c = false → ∀ q (_ : q < LP.length) (_ : i < LP.length), q < k + 1 → LP[q].x.c ≠ LP[i].x.c) := by
            intro hs q h1 h2 h3
            by_cases e : q = k
            · subst e
              exact fun e => by rw [vSame_iff.2 e] at hs; cases hs
            · exact HQ.out q h1 h2 (by omega)
          clear s2 s4 hfi hfk HS2 HS4 c1 c2 d1 d2 xf0 xf1 x0 HQ
          generalize vSame LP[k].x.c LP[i].x.c = BS at *
          generalize LP[i] = P at *
          generalize LP[k] = Q at *
          go_wp2_with fail
          have KD : Keep0 wr wr.drew := (Keep.refl _ wr).drew
          have z0 : wr.drew.cell? ⟨g, 1, none⟩ = some (.slice (some ⟨b, off, none⟩) LP.length cap) := KD.cell x1 (fun f => f)
          have z1 : wr.drew.cell? ⟨b, off + k * 3, none⟩ = some (.slice Q.vo Q.x.c.length Q.vc) := KD.cell d0 (fun f => f)
          have z2 : wr.drew.cell? ⟨b, off + i * 3, none⟩ = some (.slice P.vo P.x.c.length P.vc) := KD.cell c0 (fun f => f)
          refine wp_region_held_drew (S := (fun W => W.cell? ⟨g, 1, none⟩ = some (.slice (some ⟨b, off, none⟩) LP.length cap) ∧ W.cell? ⟨b, off + k * 3, none⟩ = some (.slice Q.vo Q.x.c.length Q.vc) ∧ W.cell? ⟨b, off + i * 3, none⟩ = some (.slice P.vo P.x.c.length P.vc))) (by kernel_rfl) ⟨z0, z1, z2⟩ (fun hHeld => ?_)
          refine wpAnyH_take (i := 0) (v := ?c0v) (by simp only [List.getElem?_toArray, List.getElem?_cons_zero] <;> rfl) (by kernel_rfl) (by kernel_rfl) (by kernel_rfl) (by exact fun _ _ _ h => h) (Or.inl ⟨by rfl, ?c0y⟩) hHeld ?c0r
          case c0y => intro w hSw; (try dsimp only at hSw); go_simp <;> rfl
          simp only [Act.put, List.setIfInBounds_toArray, List.set_cons_zero, List.set_cons_succ]
          refine wpAnyH_take (i := 1) (v := ?c1v) (by simp only [List.getElem?_toArray, List.getElem?_cons_succ, List.getElem?_cons_zero] <;> rfl) (by kernel_rfl) (by kernel_rfl) (by kernel_rfl) (by exact fun _ _ _ h => h) (Or.inl ⟨by rfl, ?c1y⟩) hHeld ?c1r
          case c1y => intro w hSw; (try dsimp only at hSw); go_simp <;> rfl
          simp only [Act.put, List.setIfInBounds_toArray, List.set_cons_zero, List.set_cons_succ]
          refine wpAnyH_take (i := 2) (v := ?c2v) (by simp only [List.getElem?_toArray, List.getElem?_cons_succ, List.getElem?_cons_zero] <;> rfl) (by kernel_rfl) (by kernel_rfl) (by kernel_rfl) (by exact fun _ _ _ h => h) (Or.inl ⟨by rfl, ?c2y⟩) hHeld ?c2r
          case c2y => intro w hSw; (try dsimp only at hSw); go_simp <;> rfl
          simp only [Act.put, List.setIfInBounds_toArray, List.set_cons_zero, List.set_cons_succ]
          refine wpAnyH_take (i := 3) (v := ?c3v) (by simp only [List.getElem?_toArray, List.getElem?_cons_succ, List.getElem?_cons_zero] <;> rfl) (by kernel_rfl) (by kernel_rfl) (by kernel_rfl) (by exact fun _ _ _ h => h) (Or.inl ⟨by rfl, ?c3y⟩) hHeld ?c3r
          case c3y => intro w hSw; (try dsimp only at hSw); go_simp <;> rfl
          simp only [Act.put, List.setIfInBounds_toArray, List.set_cons_zero, List.set_cons_succ]
          refine wpAnyH_take (i := 4) (v := ?c4v) (by simp only [List.getElem?_toArray, List.getElem?_cons_succ, List.getElem?_cons_zero] <;> rfl) (by kernel_rfl) (by kernel_rfl) (by kernel_rfl) (by exact fun _ _ _ h => h) (Or.inl ⟨by rfl, ?c4y⟩) hHeld ?c4r
          case c4y => intro w hSw; (try dsimp only at hSw); go_simp <;> rfl
          simp only [Act.put, List.setIfInBounds_toArray, List.set_cons_zero, List.set_cons_succ]
          refine wpAnyH_take (i := 5) (v := ?c5v) (by simp only [List.getElem?_toArray, List.getElem?_cons_succ, List.getElem?_cons_zero] <;> rfl) (by kernel_rfl) (by kernel_rfl) (by kernel_rfl) (by exact fun _ _ _ h => h) (Or.inl ⟨by rfl, ?c5y⟩) hHeld ?c5r
          case c5y => intro w hSw; (try dsimp only at hSw); go_simp <;> rfl
          simp only [Act.put, List.setIfInBounds_toArray, List.set_cons_zero, List.set_cons_succ]
          refine wpAnyH_take (i := 6) (v := ?c6v) (by simp only [List.getElem?_toArray, List.getElem?_cons_succ, List.getElem?_cons_zero] <;> rfl) (by kernel_rfl) (by kernel_rfl) (by kernel_rfl) (by exact fun _ _ _ h => h) (Or.inl ⟨by rfl, ?c6y⟩) hHeld ?c6r
          case c6y => intro w hSw; (try dsimp only at hSw); go_simp <;> rfl
          simp only [Act.put, List.setIfInBounds_toArray, List.set_cons_zero, List.set_cons_succ]
          refine wpAnyH_take (i := 7) (v := ?c7v) (by simp only [List.getElem?_toArray, List.getElem?_cons_succ, List.getElem?_cons_zero] <;> rfl) (by kernel_rfl) (by kernel_rfl) (by kernel_rfl) (by exact fun _ _ _ h => h) (Or.inl ⟨by rfl, ?c7y⟩) hHeld ?c7r
          case c7y => intro w hSw; (try dsimp only at hSw); go_simp <;> rfl
          simp only [Act.put, List.setIfInBounds_toArray, List.set_cons_zero, List.set_cons_succ]
          refine wpAnyH_take (i := 8) (v := ?c8v) (by simp only [List.getElem?_toArray, List.getElem?_cons_succ, List.getElem?_cons_zero] <;> rfl) (by kernel_rfl) (by kernel_rfl) (by kernel_rfl) (by exact fun _ _ _ h => h) (Or.inl ⟨by rfl, ?c8y⟩) hHeld ?c8r
          case c8y => intro w hSw; (try dsimp only at hSw); go_simp <;> rfl
          simp only [Act.put, List.setIfInBounds_toArray, List.set_cons_zero, List.set_cons_succ]
          refine wpAnyH_take (i := 9) (v := ?c9v) (by simp only [List.getElem?_toArray, List.getElem?_cons_succ, List.getElem?_cons_zero] <;> rfl) (by kernel_rfl) (by kernel_rfl) (by kernel_rfl) (by exact fun _ _ _ h => h) (Or.inl ⟨by rfl, ?c9y⟩) hHeld ?c9r
          case c9y => intro w hSw; (try dsimp only at hSw); go_simp <;> rfl
          simp only [Act.put, List.setIfInBounds_toArray, List.set_cons_zero, List.set_cons_succ]
          refine wpAnyH_take (i := 10) (v := ?c10v) (by simp only [List.getElem?_toArray, List.getElem?_cons_succ, List.getElem?_cons_zero] <;> rfl) (by kernel_rfl) (by kernel_rfl) (by kernel_rfl) (by exact fun _ _ _ h => h) (Or.inl ⟨by rfl, ?c10y⟩) hHeld ?c10r
          case c10y => intro w hSw; (try dsimp only at hSw); go_simp <;> rfl
          simp only [Act.put, List.setIfInBounds_toArray, List.set_cons_zero, List.set_cons_succ]
          refine wpAnyH_take (i := 11) (v := ?c11v) (by simp only [List.getElem?_toArray, List.getElem?_cons_succ, List.getElem?_cons_zero] <;> rfl) (by kernel_rfl) (by kernel_rfl) (by kernel_rfl) (by exact fun _ _ _ h => h) (Or.inl ⟨by rfl, ?c11y⟩) hHeld ?c11r
          case c11y => intro w hSw; (try dsimp only at hSw); go_simp <;> rfl
          simp only [Act.put, List.setIfInBounds_toArray, List.set_cons_zero, List.set_cons_succ]
          refine wpAnyH_ready (rs := [12]) (by kernel_rfl) (by simp) ?_
          refine AllReadyH.cons (by simp only [List.getElem?_toArray, List.getElem?_cons_succ, List.getElem?_cons_zero] <;> rfl) (fun K hK => ?_) AllReadyH.nil
          go_simp
          refine (ysm _ KD).mono ?_
          rintro e W3 ⟨rfl, h3⟩
          have k3 := keepN h3
          go_wp2_with fail
          refine hK.out _ _ ⟨k3.cell z0 (fun f => f), k3.cell z1 (fun f => f), k3.cell z2 (fun f => f)⟩ (fun hHeld => ?_)
          clear hK K
          refine wpAnyH_done (by kernel_rfl) ?_ _
          clear hHeld
          have K3 := KD.trans k3
          clear KD k3 h3 ysm z0 z1 z2
          have HKW : Hid (Keep0 w W3) := HKk.out.trans K3
          have HXW : Hid (DAt W3 g (.string key) (.slice (some ⟨b, off, none⟩) LP.length cap)) := HXk.out.keep0 K3
          clear K3 x1 d0 c0
          cases BS with
          | true =>
            have HV : Hid (6 = r) := HVt.out rfl
            clear HVt HVf
            go_wp2
            go_ret
            exact ⟨by rw [← HV.out]; rfl, HKW.out⟩
          | false =>
            have HQ2 : Hid (∀ q (_ : q < LP.length) (_ : i < LP.length), q < k + 1 → LP[q].x.c ≠ LP[i].x.c) := HVf.out rfl
            clear HVt HVf
            go_wp2
            go_roundw
            case rel => exact ⟨k + 1, by go_num, by omega, HQ2, HXW, HKW⟩
            case measure => simp [intOf]; omega
        · have j7 : ¬ (k : Int) < i := by omega
          have HR2 : Hid (mGo osOne osNext ((LP.map Po.x).take (i + 1)) ((LP.map Po.x).drop (i + 1)) = r) := by
            have h := HD.out
            have ht : osTest ((LP.map Po.x).take i) LP[i].x = 0 := by
              refine osTest_zero.2 (fun y hy => ?_)
              obtain ⟨q, hq, rfl⟩ := List.mem_iff_getElem.1 hy
              have hq' : q < i := by rw [List.length_take] at hq; omega
              rw [List.getElem_take, List.getElem_map]
              exact HQ.out q (by omega) hlt (by omega)
            rw [ht, if_pos rfl] at h
            exact h
          clear HQ HD
          go_wp2
          go_roundw
          case rel => exact ⟨i + 1, by go_num, by omega, HR2, HXk, HKk⟩
          case measure => simp [intOf]; omega
    · have j5 : ¬ (i : Int) < LP.length := by omega
      have hd := HRi.out
      rw [List.drop_eq_nil_of_le (by rw [Hlen.out]; omega)] at hd
      have HD : Hid (0 = r) := hd
      clear hd HRi
      go_wp2
      go_ret
      exact ⟨by first | (rw [← HD.out]; rfl) | rw [← HD.out], HKi.out⟩
end Go.Proofs.YtoefibkhlhmlfaaGreat
