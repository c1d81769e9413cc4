/-
  Contracts of package split's functions, each proved over this seat's translation: the closures of All and Starts, apart, All, Starts, Begins.
  Conditions: the text takes at most 1,000,000 bytes.
-/
import Derived.Test.YtaleennijfefnaaGreatSplitMem
import Derived.Test.YtaleennijfefnaaGreatFrameDec
import Derived.Deep.DeepAppendWide
namespace Go.Proofs.YtaleennijfefnaaGreat
open Go.RowKit

/-- At block c lies a slice of frames that the call owns; its row lies at B or above. -/
structure AccF (w : World) (B c : Nat) (l : List Fr) : Prop where
  lt : c < B
  at_ : ∃ v, w.heap[c]? = some (.cells #[v] 23 (0, 0)) ∧ w.ownsRow B 31 3 v l.length (frCells l)
theorem AccF.keep {R : Nat → Prop} {w w' : World} {B c : Nat} {l : List Fr} (h : AccF w B c l) (K : Keep R w w') (hc : ¬ R c) (hn : ∀ k, B ≤ k → ¬ R k) : AccF w' B c l := by
  obtain ⟨v, hv, ho⟩ := h.at_
  exact ⟨h.lt, v, (K.block c (Array.getElem?_eq_some_iff.1 hv).1 hc).trans hv, row_keep ho K hn⟩
theorem Keep.grown {w w' : World} {B : Nat} {row : Option Nat} (g : w.grownBy w' row) (h : ∀ k, row = some k → B ≤ k) : KeepFrom B w w' :=
  ⟨g.os, g.tape, g.output, g.size, fun k hk hn => g.block k hk (fun e => hn (h k e.symm))⟩
theorem own_ne {w : World} {B c : Nat} {e : TypeId} {sz n : Nat} {v : Value} {xs : List Value} (h : w.ownsRow B e sz v n xs) (hc : c < B) : v.ownBlock ≠ some c := fun e => by have := (h.lt c e).1; omega
theorem slice_of_own {w : World} {B : Nat} {e : TypeId} {sz n : Nat} {v : Value} {xs : List Value} (h : w.ownsRow B e sz v n xs) : ∃ ao n' cap, v = .slice ao n' cap := by
  rcases h.2 with ⟨e, _⟩ | ⟨_, _, _, e, _⟩
  · exact ⟨_, _, _, e⟩
  · exact ⟨_, _, _, e⟩
theorem frame_info : (Tryz.prog.info? 31).map (fun i => (i.zero, i.size, i.bytes)) = some (some (.agg #[.int .u8 0, .int .u8 0, .string ⟨#[]⟩]), 3, 24) := by kernel_rfl
theorem int_info : (Tryz.prog.info? 3).map (fun i => (i.zero, i.size, i.bytes)) = some (some (.int .i64 0), 1, 8) := by kernel_rfl
theorem fcells_new {w : World} {t : TypeId} (f : Fr) : ∀ j u, f.cells[j]? = some u → (w.alloc (.cells #[.int .u8 (f.v.toNat : Int), .int .u8 (f.k.toNat : Int), .string f.p] t)).cell? ((⟨w.heap.size, 0, none⟩ : Addr).add j) = some u := by
  intro j u hu
  rw [add_plain, Nat.zero_add]
  refine cell_alloc w t ?_
  rw [← hu]
  exact List.getElem?_toArray
set_option maxRecDepth 100000 in
theorem allTell {w : World} {B c : Nat} {l : List Fr} (h : AccF w B c l) (hB : B ≤ w.heap.size) (f : Fr) (a : Int) (hl : l.length ≤ 1000000) :
    Calls Tryz.prog 18 #[.int .i64 a, f.val, ptr c] w fun e w' => e = .returned (.tuple #[]) ∧ AccF w' B c (l ++ [f]) ∧ Keep (fun k => k = c ∨ B ≤ k) w w' := by
  obtain ⟨hcB, v, hv, ho⟩ := h
  have hc : c < w.heap.size := by omega
  obtain ⟨i0, hi, z0, z1, z2⟩ := info_parts frame_info
  unfold Fr.val fr
  have x0 : w.cell? ⟨c, 0, none⟩ = some v := cell_of_one hv
  have kW := ((Keep.refl (fun _ => False) w).alloc (.cells #[.int .u8 (f.v.toNat : Int), .int .u8 (f.k.toNat : Int), .string f.p] 31)).alloc (.cells #[.int .u8 (f.v.toNat : Int), .int .u8 (f.k.toNat : Int), .string f.p] 31)
  have hn := fcells_new (w := w.alloc (.cells #[.int .u8 (f.v.toNat : Int), .int .u8 (f.k.toNat : Int), .string f.p] 31)) (t := 31) f
  rw [World.size_alloc] at hn
  have hoW := row_keep ho kW (fun _ _ f => f)
  have hvW := (kW.block c hc (fun f => f)).trans hv
  go_enter Tryz.func18, Tryz.ntmps18
  go_wp2_with (at_builtin; refine wpList_append_own_wide _ rfl _ _ 23 rfl B 31 i0 _ 3 24 Tryz.underlying23 hi z0 z1 z2 rfl (by decide) _ _ _ rfl hoW ⟨w.heap.size + 1, 0, none⟩ 1 1 f.cells rfl rfl hn ?c1 ?c2 ?c3 ?c4 ?_)
  case c1 => intro u hu; simp only [Fr.cells, List.mem_cons, List.mem_nil_iff, or_false] at hu; rcases hu with rfl | rfl | rfl <;> rfl
  case c2 => unfold maxLen; omega
  case c3 => omega
  case c4 => have := kW.size; omega
  intro v' w2 ho' hg _
  have hne := own_ne hoW hcB
  have hne' := own_ne ho' hcB
  have hv2 := (hg.block c (by have := kW.size; omega) (fun e => hne e.symm)).trans hvW
  have d1 : w2.cell? ⟨c, 0, none⟩ = some v := cell_of_one hv2
  have d2 : w2.frozen? ⟨c, 0, none⟩ = false := free_of_one hv2
  have K2 := (kW.any (R := fun k => k = c ∨ B ≤ k)).trans ((Keep.grown hg (fun k hk => (hoW.lt k hk).1)).mono (fun k _ h => Or.inr h))
  have L : (l ++ [f]).length = l.length + 1 := by rw [List.length_append]; rfl
  obtain ⟨ao, n', cap, rfl⟩ := slice_of_own ho'
  clear hn hoW hvW kW x0 hg hv hne z0 z1 z2 hi
  go_wp2
  go_end0
  refine ⟨rfl, ⟨hcB, _, one_setCell hv2, ?_⟩, K2.setCell (fun _ => Or.inl rfl) _⟩
  rw [L, frCells_app]
  exact ownsRow_setCell_other ho' hne' _

structure AccN (w : World) (B c : Nat) (l : List Nat) : Prop where
  lt : c < B
  at_ : ∃ v, w.heap[c]? = some (.cells #[v] 27 (0, 0)) ∧ w.ownsRow B 3 1 v l.length (natCells l)
theorem AccN.keep {R : Nat → Prop} {w w' : World} {B c : Nat} {l : List Nat} (h : AccN w B c l) (K : Keep R w w') (hc : ¬ R c) (hn : ∀ k, B ≤ k → ¬ R k) : AccN w' B c l := by
  obtain ⟨v, hv, ho⟩ := h.at_
  exact ⟨h.lt, v, (K.block c (Array.getElem?_eq_some_iff.1 hv).1 hc).trans hv, row_keep ho K hn⟩
theorem ncell_new {w : World} {t : TypeId} (a : Nat) : ∀ j u, (natCells [a])[j]? = some u → (w.alloc (.cells #[.int .i64 (a : Int)] t)).cell? ((⟨w.heap.size, 0, none⟩ : Addr).add j) = some u := by
  intro j u hu
  rw [add_plain, Nat.zero_add]
  refine cell_alloc w t ?_
  rw [← hu]
  exact List.getElem?_toArray
theorem natCells_app (l r : List Nat) : natCells (l ++ r) = natCells l ++ natCells r := List.map_append
set_option maxRecDepth 100000 in
theorem startsTell {w : World} {B c : Nat} {l : List Nat} (h : AccN w B c l) (hB : B ≤ w.heap.size) (f : Fr) (a : Nat) (hl : l.length ≤ 1000000) :
    Calls Tryz.prog 20 #[.int .i64 (a : Int), f.val, ptr c] w fun e w' => e = .returned (.tuple #[]) ∧ AccN w' B c (l ++ [a]) ∧ Keep (fun k => k = c ∨ B ≤ k) w w' := by
  obtain ⟨hcB, v, hv, ho⟩ := h
  have hc : c < w.heap.size := by omega
  obtain ⟨i0, hi, z0, z1, z2⟩ := info_parts int_info
  unfold Fr.val fr
  have x0 : w.cell? ⟨c, 0, none⟩ = some v := cell_of_one hv
  have kW := ((Keep.refl (fun _ => False) w).alloc (.cells #[.int .u8 (f.v.toNat : Int), .int .u8 (f.k.toNat : Int), .string f.p] 31)).alloc (.cells #[.int .i64 (a : Int)] 3)
  have hn := ncell_new (w := w.alloc (.cells #[.int .u8 (f.v.toNat : Int), .int .u8 (f.k.toNat : Int), .string f.p] 31)) (t := 3) a
  rw [World.size_alloc] at hn
  have hoW := row_keep ho kW (fun _ _ f => f)
  have hvW := (kW.block c hc (fun f => f)).trans hv
  go_enter Tryz.func20, Tryz.ntmps20
  go_wp2_with (at_builtin; refine wpList_append_own_wide _ rfl _ _ 27 rfl B 3 i0 _ 1 8 Tryz.underlying27 hi z0 z1 z2 rfl (by decide) _ _ _ rfl hoW ⟨w.heap.size + 1, 0, none⟩ 1 1 (natCells [a]) rfl rfl hn ?c1 ?c2 ?c3 ?c4 ?_)
  case c1 => intro u hu; simp only [natCells, List.map_cons, List.map_nil, List.mem_cons, List.mem_nil_iff, or_false] at hu; rw [hu]; rfl
  case c2 => unfold maxLen; omega
  case c3 => omega
  case c4 => have := kW.size; omega
  intro v' w2 ho' hg _
  have hne := own_ne hoW hcB
  have hne' := own_ne ho' hcB
  have hv2 := (hg.block c (by have := kW.size; omega) (fun e => hne e.symm)).trans hvW
  have d1 : w2.cell? ⟨c, 0, none⟩ = some v := cell_of_one hv2
  have d2 : w2.frozen? ⟨c, 0, none⟩ = false := free_of_one hv2
  have K2 := (kW.any (R := fun k => k = c ∨ B ≤ k)).trans ((Keep.grown hg (fun k hk => (hoW.lt k hk).1)).mono (fun k _ h => Or.inr h))
  have L : (l ++ [a]).length = l.length + 1 := by rw [List.length_append]; rfl
  obtain ⟨ao, n', cap, rfl⟩ := slice_of_own ho'
  clear hn hoW hvW kW x0 hg hv hne z0 z1 z2 hi
  go_wp2
  go_end0
  refine ⟨rfl, ⟨hcB, _, one_setCell hv2, ?_⟩, K2.setCell (fun _ => Or.inl rfl) _⟩
  rw [L, natCells_app]
  exact ownsRow_setCell_other ho' hne' _
/-! ### apart -/
def txtOf : Value → ByteArray
  | .string s => s
  | _ => ⟨#[]⟩
def frsOf (l : List (Fr × Nat)) : List Fr := l.map (·.1)
def natsOf (l : List (Fr × Nat)) : List Nat := l.map (·.2)
theorem frsOf_len (l : List (Fr × Nat)) : (frsOf l).length = l.length := List.length_map _
theorem natsOf_len (l : List (Fr × Nat)) : (natsOf l).length = l.length := List.length_map _
set_option maxRecDepth 100000 in
set_option maxHeartbeats 4000000 in
theorem apartF {w : World} {c : Nat} (hc : w.heap[c]? = some (.cells #[.slice none 0 0] 23 (0, 0))) (s : ByteArray) (hs : s.size ≤ 1000000) :
    Calls Tryz.prog 17 #[.string s, .func (.func 18) #[] #[ptr c]] w fun e w' => e = .returned (.tuple #[.int .i64 ((sAll s).2.1 : Int), .int .i64 (sAll s).2.2]) ∧ AccF w' (w.heap.size + 1) c (frsOf (sAll s).1) ∧ Keep1 c w w' := by
  have HS : Hid (s.size ≤ 1000000) := hs
  have hs1 : (s.size : Int) ≤ 9223372036854775807 := by omega
  have hc0 : c < w.heap.size := (Array.getElem?_eq_some_iff.1 hc).1
  have HE : Hid (∀ {A : List (Fr × Nat)} {N : Nat} {E : Int}, sAll s = (A, N, E) → (sAll s).1 = A ∧ (sAll s).2.1 = N ∧ (sAll s).2.2 = E) := fun h => by rw [h]; exact ⟨rfl, rfl, rfl⟩
  generalize hLT : (sAll s).2.1 = LT at *
  generalize hER : (sAll s).2.2 = ER at *
  generalize hFS : (sAll s).1 = FS at *
  clear hLT hER hFS
  go_enter Tryz.func17, Tryz.ntmps17
  go_wp2_with fail
  refine (newcoder_any _).mono ?_
  rintro e w1 ⟨rfl, c1, k1⟩
  have s1 : w.heap.size < w1.heap.size := c1.lt
  have a1 : AccF w1 (w.heap.size + 1) c [] := ⟨by omega, _, (k1.block c hc0 (fun f => f)).trans hc, World.ownsRow_nil _ _ _ _⟩
  generalize hkb : w.heap.size = kb at *
  have K1 : Keep1 c w w1 := k1.any
  clear k1 hc hs
  go_wp2_with fail
  generalize hKV : kptr (some kb) = KV
  have HKV : Hid (kptr (some kb) = KV) := hKV
  clear hKV
  go_loopw [7] (fun r wr => ∃ (R : ByteArray) (acc : List (Fr × Nat)) (a : Nat), r = .string R ∧ SAt s acc R a ∧ AccF wr (kb + 1) c (frsOf acc) ∧ CoderAt wr (some kb) ∧ Keep1 c w wr ∧ kb < wr.heap.size) (fun r _ => (txtOf r).size)
  case atStart => exact ⟨s, [], 0, rfl, SAt.zero s, a1, c1, K1, s1⟩
  case round =>
    obtain ⟨R, acc, a, rfl, hA, hAcc, hC, hK, hz⟩ := hrel
    clear a1 c1 K1 s1
    have HA : Hid (SAt s acc R a) := hA
    have hsz := hA.size
    have hlen := hA.len
    have hs := HS.out
    clear hA
    have yd := decode7_any hC R (by unfold maxLen; omega)
    rw [HKV.out] at yd
    have hln : (frsOf acc).length ≤ 1000000 := by rw [frsOf_len]; omega
    by_cases h0 : qErr R 0 0 = 0
    · obtain ⟨n1, n2, n3⟩ := s_step h0
      rw [sFr_val, n1, h0] at yd
      have HM : Hid (SAt s (acc ++ [(sFr R, a)]) (sRest R) (a + sN R)) := HA.out.more h0
      have HZ : Hid ((sRest R).size = R.size - sN R) := sRest_size
      have yt := fun W (h : AccF W (kb + 1) c (frsOf acc)) (hB : kb + 1 ≤ W.heap.size) => allTell h hB (sFr R) a hln
      have hof : frsOf acc ++ [sFr R] = frsOf (acc ++ [(sFr R, a)]) := by unfold frsOf; rw [List.map_append]; rfl
      rw [hof] at yt
      generalize (acc ++ [(sFr R, a)]) = acc' at *
      generalize sFr R = f at *
      unfold Fr.val fr at yd yt
      have i1 : ((s.size : Int) - (R.size : Int)) = (a : Int) := by omega
      have i2 : IntKind.i64.wrap (a : Int) = a := by rw [IntKind.wrap_i64]; omega
      have i3 : (sN R : Int) ≤ (R.size : Int) := by omega
      have i4 : (R.size : Int) ≤ 9223372036854775807 := by omega
      have i5 : sN R ≤ R.size := n3
      have HN : Hid (9 ≤ sN R) := n2
      have HR : Hid (sRest R = R.extract (sN R) R.size) := rfl
      generalize sN R = N at *
      generalize sRest R = RR at *
      clear h0 n1 n2 n3 hof HE hlen hln hsz hs
      go_wp2_with fail
      refine yd.mono ?_
      rintro e w2 ⟨rfl, c2, k2⟩
      have z2 := c2.lt
      have k2' : Keep (fun k => k = kb) wr w2 := k2.mono (fun i _ hh => by cases hh; rfl)
      have acc2 := hAcc.keep k2' (by omega) (fun k hk => by omega)
      have K2 : Keep1 c w w2 := hK.step k2' (fun i hi hh => by omega)
      clear yd k2 k2' hAcc hC hK hz
      have f3 := FrAt.new w2 (f.v.toNat : Int) (f.k.toNat : Int) f.p 31
      have k3 : Keep0 w2 (w2.alloc (.cells #[.int .u8 (f.v.toNat : Int), .int .u8 (f.k.toNat : Int), .string f.p] 31)) := (Keep.refl _ w2).alloc _
      have acc3 := acc2.keep k3 (fun f => f) (fun _ _ f => f)
      have c3 := c2.keep0 k3
      have K3 := K2.step0 k3
      have z3 : kb + 1 ≤ (w2.alloc (.cells #[.int .u8 (f.v.toNat : Int), .int .u8 (f.k.toNat : Int), .string f.p] 31)).heap.size := by have := k3.size; omega
      clear acc2 c2 K2 k3
      obtain ⟨d0, d1, d2, d3, d4, d5⟩ := f3.cells
      clear d3 d4 d5 f3
      go_wp2_with fail
      generalize w2.alloc (.cells #[.int .u8 (f.v.toNat : Int), .int .u8 (f.k.toNat : Int), .string f.p] 31) = w3 at *
      generalize w2.heap.size = g2 at *
      refine (yt _ acc3 z3).mono ?_
      rintro e w4 ⟨rfl, acc4, k4⟩
      have c4 := c3.keep k4 (fun b hb hh => by cases hb; rcases hh with hh | hh <;> omega)
      have K4 : Keep1 c w w4 := K3.step k4 (fun i hi hh => by rcases hh with hh | hh; exact hh; omega)
      have z4 : kb < w4.heap.size := by have := k4.size; omega
      clear acc3 c3 K3 k4 yt d0 d1 d2 z3
      go_wp2
      go_roundw
      case rel => exact ⟨RR, acc', a + N, by rw [HR.out], HM.out, acc4, c4, K4, z4⟩
      case measure =>
        have e1 := HZ.out
        have e2 := HN.out
        rw [HR.out] at e1
        simp only [txtOf]
        omega
    · have HQ := HE.out (HA.out.stop h0)
      rw [qFr_no h0, show qLen R = 0 from if_neg h0] at yd
      obtain ⟨e1, e2, e3⟩ := HQ
      subst e1
      subst e2
      have i4 : (R.size : Int) ≤ 9223372036854775807 := by omega
      have e0 : (qErr R 0 0 == 0) = false := by simpa using h0
      unfold fr at yd
      by_cases h2 : qErr R 0 0 = 2
      · have h3 : ER = 0 := by rw [e3]; unfold sErr; rw [if_pos h2]
        rw [h2] at yd
        clear HE h0 e3 e0 h2 hln hlen hsz hs
        go_wp2_with fail
        refine yd.mono ?_
        rintro e w2 ⟨rfl, c2, k2⟩
        have k2' : Keep (fun k => k = kb) wr w2 := k2.mono (fun i _ hh => by cases hh; rfl)
        have acc2 := hAcc.keep k2' (by omega) (fun k hk => by omega)
        have K2 : Keep1 c w w2 := hK.step k2' (fun i hi hh => by omega)
        have k3 : Keep0 w2 (w2.alloc (.cells #[.int .u8 0, .int .u8 0, .string ⟨#[]⟩] 31)) := (Keep.refl _ w2).alloc _
        have acc3 := acc2.keep k3 (fun f => f) (fun _ _ f => f)
        have K3 := K2.step0 k3
        clear yd k2 k2' hAcc hC hK hz acc2 c2 K2 k3
        go_wp2
        go_ret2
        exact ⟨by rw [h3]; rfl, by rw [hkb]; exact acc3, K3⟩
      · have h3 : ER = qErr R 0 0 := by rw [e3]; unfold sErr; rw [if_neg h2]
        have e02 : (qErr R 0 0 == 2) = false := by simpa using h2
        rw [← h3] at yd e0 e02
        clear HE h0 e3 h2 h3 hln hlen hsz hs
        go_wp2_with fail
        refine yd.mono ?_
        rintro e w2 ⟨rfl, c2, k2⟩
        have k2' : Keep (fun k => k = kb) wr w2 := k2.mono (fun i _ hh => by cases hh; rfl)
        have acc2 := hAcc.keep k2' (by omega) (fun k hk => by omega)
        have K2 : Keep1 c w w2 := hK.step k2' (fun i hi hh => by omega)
        have k3 : Keep0 w2 (w2.alloc (.cells #[.int .u8 0, .int .u8 0, .string ⟨#[]⟩] 31)) := (Keep.refl _ w2).alloc _
        have acc3 := acc2.keep k3 (fun f => f) (fun _ _ f => f)
        have K3 := K2.step0 k3
        clear yd k2 k2' hAcc hC hK hz acc2 c2 K2 k3
        go_wp2
        go_ret2
        exact ⟨rfl, by rw [hkb]; exact acc3, K3⟩
set_option maxRecDepth 100000 in
set_option maxHeartbeats 4000000 in
theorem apartN {w : World} {c : Nat} (hc : w.heap[c]? = some (.cells #[.slice none 0 0] 27 (0, 0))) (s : ByteArray) (hs : s.size ≤ 1000000) :
    Calls Tryz.prog 17 #[.string s, .func (.func 20) #[] #[ptr c]] w fun e w' => e = .returned (.tuple #[.int .i64 ((sAll s).2.1 : Int), .int .i64 (sAll s).2.2]) ∧ AccN w' (w.heap.size + 1) c (natsOf (sAll s).1) ∧ Keep1 c w w' := by
  have HS : Hid (s.size ≤ 1000000) := hs
  have hs1 : (s.size : Int) ≤ 9223372036854775807 := by omega
  have hc0 : c < w.heap.size := (Array.getElem?_eq_some_iff.1 hc).1
  have HE : Hid (∀ {A : List (Fr × Nat)} {N : Nat} {E : Int}, sAll s = (A, N, E) → (sAll s).1 = A ∧ (sAll s).2.1 = N ∧ (sAll s).2.2 = E) := fun h => by rw [h]; exact ⟨rfl, rfl, rfl⟩
  generalize hLT : (sAll s).2.1 = LT at *
  generalize hER : (sAll s).2.2 = ER at *
  generalize hFS : (sAll s).1 = FS at *
  clear hLT hER hFS
  go_enter Tryz.func17, Tryz.ntmps17
  go_wp2_with fail
  refine (newcoder_any _).mono ?_
  rintro e w1 ⟨rfl, c1, k1⟩
  have s1 : w.heap.size < w1.heap.size := c1.lt
  have a1 : AccN w1 (w.heap.size + 1) c [] := ⟨by omega, _, (k1.block c hc0 (fun f => f)).trans hc, World.ownsRow_nil _ _ _ _⟩
  generalize hkb : w.heap.size = kb at *
  have K1 : Keep1 c w w1 := k1.any
  clear k1 hc hs
  go_wp2_with fail
  generalize hKV : kptr (some kb) = KV
  have HKV : Hid (kptr (some kb) = KV) := hKV
  clear hKV
  go_loopw [7] (fun r wr => ∃ (R : ByteArray) (acc : List (Fr × Nat)) (a : Nat), r = .string R ∧ SAt s acc R a ∧ AccN wr (kb + 1) c (natsOf acc) ∧ CoderAt wr (some kb) ∧ Keep1 c w wr ∧ kb < wr.heap.size) (fun r _ => (txtOf r).size)
  case atStart => exact ⟨s, [], 0, rfl, SAt.zero s, a1, c1, K1, s1⟩
  case round =>
    obtain ⟨R, acc, a, rfl, hA, hAcc, hC, hK, hz⟩ := hrel
    clear a1 c1 K1 s1
    have HA : Hid (SAt s acc R a) := hA
    have hsz := hA.size
    have hlen := hA.len
    have hs := HS.out
    clear hA
    have yd := decode7_any hC R (by unfold maxLen; omega)
    rw [HKV.out] at yd
    have hln : (natsOf acc).length ≤ 1000000 := by rw [natsOf_len]; omega
    by_cases h0 : qErr R 0 0 = 0
    · obtain ⟨n1, n2, n3⟩ := s_step h0
      rw [sFr_val, n1, h0] at yd
      have HM : Hid (SAt s (acc ++ [(sFr R, a)]) (sRest R) (a + sN R)) := HA.out.more h0
      have HZ : Hid ((sRest R).size = R.size - sN R) := sRest_size
      have yt := fun W (h : AccN W (kb + 1) c (natsOf acc)) (hB : kb + 1 ≤ W.heap.size) => startsTell h hB (sFr R) a hln
      have hof : natsOf acc ++ [a] = natsOf (acc ++ [(sFr R, a)]) := by unfold natsOf; rw [List.map_append]; rfl
      rw [hof] at yt
      generalize (acc ++ [(sFr R, a)]) = acc' at *
      generalize sFr R = f at *
      unfold Fr.val fr at yd yt
      have i1 : ((s.size : Int) - (R.size : Int)) = (a : Int) := by omega
      have i2 : IntKind.i64.wrap (a : Int) = a := by rw [IntKind.wrap_i64]; omega
      have i3 : (sN R : Int) ≤ (R.size : Int) := by omega
      have i4 : (R.size : Int) ≤ 9223372036854775807 := by omega
      have i5 : sN R ≤ R.size := n3
      have HN : Hid (9 ≤ sN R) := n2
      have HR : Hid (sRest R = R.extract (sN R) R.size) := rfl
      generalize sN R = N at *
      generalize sRest R = RR at *
      clear h0 n1 n2 n3 hof HE hlen hln hsz hs
      go_wp2_with fail
      refine yd.mono ?_
      rintro e w2 ⟨rfl, c2, k2⟩
      have z2 := c2.lt
      have k2' : Keep (fun k => k = kb) wr w2 := k2.mono (fun i _ hh => by cases hh; rfl)
      have acc2 := hAcc.keep k2' (by omega) (fun k hk => by omega)
      have K2 : Keep1 c w w2 := hK.step k2' (fun i hi hh => by omega)
      clear yd k2 k2' hAcc hC hK hz
      have f3 := FrAt.new w2 (f.v.toNat : Int) (f.k.toNat : Int) f.p 31
      have k3 : Keep0 w2 (w2.alloc (.cells #[.int .u8 (f.v.toNat : Int), .int .u8 (f.k.toNat : Int), .string f.p] 31)) := (Keep.refl _ w2).alloc _
      have acc3 := acc2.keep k3 (fun f => f) (fun _ _ f => f)
      have c3 := c2.keep0 k3
      have K3 := K2.step0 k3
      have z3 : kb + 1 ≤ (w2.alloc (.cells #[.int .u8 (f.v.toNat : Int), .int .u8 (f.k.toNat : Int), .string f.p] 31)).heap.size := by have := k3.size; omega
      clear acc2 c2 K2 k3
      obtain ⟨d0, d1, d2, d3, d4, d5⟩ := f3.cells
      clear d3 d4 d5 f3
      go_wp2_with fail
      generalize w2.alloc (.cells #[.int .u8 (f.v.toNat : Int), .int .u8 (f.k.toNat : Int), .string f.p] 31) = w3 at *
      generalize w2.heap.size = g2 at *
      refine (yt _ acc3 z3).mono ?_
      rintro e w4 ⟨rfl, acc4, k4⟩
      have c4 := c3.keep k4 (fun b hb hh => by cases hb; rcases hh with hh | hh <;> omega)
      have K4 : Keep1 c w w4 := K3.step k4 (fun i hi hh => by rcases hh with hh | hh; exact hh; omega)
      have z4 : kb < w4.heap.size := by have := k4.size; omega
      clear acc3 c3 K3 k4 yt d0 d1 d2 z3
      go_wp2
      go_roundw
      case rel => exact ⟨RR, acc', a + N, by rw [HR.out], HM.out, acc4, c4, K4, z4⟩
      case measure =>
        have e1 := HZ.out
        have e2 := HN.out
        rw [HR.out] at e1
        simp only [txtOf]
        omega
    · have HQ := HE.out (HA.out.stop h0)
      rw [qFr_no h0, show qLen R = 0 from if_neg h0] at yd
      obtain ⟨e1, e2, e3⟩ := HQ
      subst e1
      subst e2
      have i4 : (R.size : Int) ≤ 9223372036854775807 := by omega
      have e0 : (qErr R 0 0 == 0) = false := by simpa using h0
      unfold fr at yd
      by_cases h2 : qErr R 0 0 = 2
      · have h3 : ER = 0 := by rw [e3]; unfold sErr; rw [if_pos h2]
        rw [h2] at yd
        clear HE h0 e3 e0 h2 hln hlen hsz hs
        go_wp2_with fail
        refine yd.mono ?_
        rintro e w2 ⟨rfl, c2, k2⟩
        have k2' : Keep (fun k => k = kb) wr w2 := k2.mono (fun i _ hh => by cases hh; rfl)
        have acc2 := hAcc.keep k2' (by omega) (fun k hk => by omega)
        have K2 : Keep1 c w w2 := hK.step k2' (fun i hi hh => by omega)
        have k3 : Keep0 w2 (w2.alloc (.cells #[.int .u8 0, .int .u8 0, .string ⟨#[]⟩] 31)) := (Keep.refl _ w2).alloc _
        have acc3 := acc2.keep k3 (fun f => f) (fun _ _ f => f)
        have K3 := K2.step0 k3
        clear yd k2 k2' hAcc hC hK hz acc2 c2 K2 k3
        go_wp2
        go_ret2
        exact ⟨by rw [h3]; rfl, by rw [hkb]; exact acc3, K3⟩
      · have h3 : ER = qErr R 0 0 := by rw [e3]; unfold sErr; rw [if_neg h2]
        have e02 : (qErr R 0 0 == 2) = false := by simpa using h2
        rw [← h3] at yd e0 e02
        clear HE h0 e3 h2 h3 hln hlen hsz hs
        go_wp2_with fail
        refine yd.mono ?_
        rintro e w2 ⟨rfl, c2, k2⟩
        have k2' : Keep (fun k => k = kb) wr w2 := k2.mono (fun i _ hh => by cases hh; rfl)
        have acc2 := hAcc.keep k2' (by omega) (fun k hk => by omega)
        have K2 : Keep1 c w w2 := hK.step k2' (fun i hi hh => by omega)
        have k3 : Keep0 w2 (w2.alloc (.cells #[.int .u8 0, .int .u8 0, .string ⟨#[]⟩] 31)) := (Keep.refl _ w2).alloc _
        have acc3 := acc2.keep k3 (fun f => f) (fun _ _ f => f)
        have K3 := K2.step0 k3
        clear yd k2 k2' hAcc hC hK hz acc2 c2 K2 k3
        go_wp2
        go_ret2
        exact ⟨rfl, by rw [hkb]; exact acc3, K3⟩
end Go.Proofs.YtaleennijfefnaaGreat
