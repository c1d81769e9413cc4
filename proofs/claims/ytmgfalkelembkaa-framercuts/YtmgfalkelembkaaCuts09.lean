/-
  The walk of the law FramerCuts, out of the contracts of package framer and of the document's own answers.
  Conditions: none beyond that the arguments can be read as data.
-/
import Derived.Test.YtmgfalkelembkaaLaw09
import Derived.Test.YtmgfalkelembkaaFramerRun
import Derived.Test.YtmgfalkelembkaaOpen09
namespace Go.Proofs.Ytmgfalkelembkaa
open Go.RowKit

/-! ### rows of texts -/
def txCells (l : List ByteArray) : List Value := l.map fun s => .string s
theorem txCells_app (l r : List ByteArray) : txCells (l ++ r) = txCells l ++ txCells r := List.map_append
theorem texts_of_row {w : World} {B : Nat} {e : TypeId} {v : Value} {n : Nat} {l : List ByteArray} (h : w.ownsRow B e 1 v n (txCells l)) :
    ∃ ao cap, v = .slice ao l.length cap ∧ TxAt w ao l ∧ (∀ b off m, ao = some ⟨b, off, m⟩ → B ≤ b) := by
  have hn : n = l.length := by have := h.1; unfold txCells at this; rw [List.length_map] at this; omega
  subst hn
  rcases h.2 with ⟨rfl, h0⟩ | ⟨g, cap, cur, rfl, hb, hrest⟩
  · refine ⟨none, 0, by rw [h0], fun i hi => by omega, fun b off m e => by cases e⟩
  · refine ⟨some ⟨g, 0, none⟩, cap, rfl, fun i hi => ⟨g, 0, rfl, ?_⟩, fun b off m e => by cases e; exact hb⟩
    have hc := h.cells (g := g) rfl i (.string l[i]) (by unfold txCells; rw [List.getElem?_map, List.getElem?_eq_getElem hi]; rfl)
    rwa [add_plain] at hc
theorem str_info : (Try.prog.info? 9).map (fun i => (i.zero, i.size, i.bytes)) = some (some (.string ⟨#[]⟩), 1, 16) := by kernel_rfl
theorem tcell_new {w : World} {t : TypeId} (s : ByteArray) : ∀ j u, (txCells [s])[j]? = some u → (w.alloc (.cells #[.string s] t)).cell? ((⟨w.heap.size, 0, none⟩ : Addr).add j) = some u := by
  intro j u hu
  rw [add_plain, Nat.zero_add]
  refine cell_alloc w t ?_
  rw [← hu]
  exact List.getElem?_toArray
set_option maxRecDepth 100000 in
theorem framerCuts_great (w : World) (s : ByteArray) (hs : s.size ≤ maxLen) (ao : Option Addr) (cap n : Nat) (hn : n ≤ maxLen) (more : ByteArray) (hm : more.size ≤ maxLen) (h : ¬ (s.size ≤ 2000 ∧ n ≤ 40 ∧ more.size ≤ 2000)) :
    Calls Try.prog 4 #[.string s, .slice ao n cap, .string more] w fun e w' => e = .returned (.bool true) ∧ Keep0 w w' := by
  have i0 : (s.size : Int) ≤ 9223372036854775807 := by unfold maxLen at hs; omega
  have i1 : (n : Int) ≤ 9223372036854775807 := by unfold maxLen at hn; omega
  have i2 : (more.size : Int) ≤ 9223372036854775807 := by unfold maxLen at hm; omega
  by_cases h0 : (2000 : Int) < s.size
  · clear h
    go_enter Try.func4, Try.ntmps4
    go_wp2_with fail
    refine (awake09 w).mono ?_
    rintro e w1 ⟨rfl, k1⟩
    go_wp2
    go_ret
    exact ⟨rfl, k1⟩
  · by_cases h1 : (40 : Int) < n
    · clear h
      go_enter Try.func4, Try.ntmps4
      go_wp2_with fail
      refine (awake09 w).mono ?_
      rintro e w1 ⟨rfl, k1⟩
      go_wp2
      go_ret
      exact ⟨rfl, k1⟩
    · have h2 : (2000 : Int) < more.size := by omega
      clear h
      go_enter Try.func4, Try.ntmps4
      go_wp2_with fail
      refine (awake09 w).mono ?_
      rintro e w1 ⟨rfl, k1⟩
      go_wp2
      go_ret
      exact ⟨rfl, k1⟩
set_option maxRecDepth 100000 in
set_option maxHeartbeats 8000000 in
theorem framerCuts_small (w : World) (s : ByteArray) (hs : s.size ≤ 2000) (ao : Option Addr) (cap : Nat) (l : List Nat) (hl : l.length ≤ 40) (hn : ∀ n ∈ l, n < 65536) (hc : U16sAt w ao l) (more : ByteArray) (hm : more.size ≤ 2000) :
    Calls Try.prog 4 #[.string s, .slice ao l.length cap, .string more] w fun e w' => e = .returned (.bool true) ∧ Keep0 w w' := by
  have HC : Hid (U16sAt w ao l) := hc
  have HN : Hid (∀ n ∈ l, n < 65536) := hn
  have HS : Hid (s.size ≤ 2000) := hs
  have HM : Hid (more.size ≤ 2000) := hm
  have HL : Hid (l.length ≤ 40) := hl
  have j0 : (s.size : Int) ≤ 2000 := by omega
  have j1 : (l.length : Int) ≤ 40 := by omega
  have j2 : (more.size : Int) ≤ 2000 := by omega
  have j3 : (s.size : Int) ≤ 9223372036854775807 := by omega
  have j4 : (l.length : Int) ≤ 9223372036854775807 := by omega
  have j5 : (more.size : Int) ≤ 9223372036854775807 := by omega
  have ya : ∀ W, Calls Try.prog 17 #[.string s] W (RAll (sAll s).1 (lf s) (er s) W) := fun W => rall8_any W s (by omega)
  have HA : Hid (frsOf (sAll s).1 = fs s) := rfl
  obtain ⟨i0, hi, z0, z1, z2⟩ := info_parts str_info
  clear hc hn hs hm hl
  go_enter Try.func4, Try.ntmps4
  go_wp2_with fail
  refine (awake09 w).mono ?_
  rintro e w1 ⟨rfl, K1⟩
  generalize hLF : lf s = LF at *
  generalize hER : er s = ER at *
  have HLF : Hid (lf s = LF) := hLF
  have HER : Hid (er s = ER) := hER
  clear hLF hER
  go_wp2_with fail
  refine (ya _).mono ?_
  rintro e w2 ⟨wo, wc, xo, xc, rfl, fw, x2, k2, x3⟩
  have K2 := K1.trans k2
  clear ya x2 x3 K1 k2
  have hA := HA.out
  generalize frsOf (sAll s).1 = FW at *
  subst hA
  generalize (natsOf (sAll s).1).length = XN at *
  go_wp2_with fail
  go_loopw [11, 12, 13] (fun v p i wr => ∃ (k a : Nat) (L : List ByteArray), i = .int .i64 (k : Int) ∧ p = .int .i64 (a : Int) ∧ k ≤ l.length ∧ a ≤ s.size ∧ L.length = k ∧ cat9 L = s.extract 0 a ∧ wr.ownsRow w2.heap.size 9 1 v L.length (txCells L) ∧ Keep0 w2 wr) (fun _ _ i _ => l.length - (intOf i).toNat)
  case atStart =>
    refine ⟨0, 0, [], rfl, rfl, by omega, by omega, rfl, ?_, World.ownsRow_nil _ _ _ _, Keep.refl _ _⟩
    apply ByteArray.ext
    apply Eq.symm
    apply Array.eq_empty_of_size_eq_zero
    show (s.extract 0 0).size = 0
    rw [ByteArray.size_extract]
    omega
  case round =>
    obtain ⟨k, a, L, rfl, rfl, hk, ha, hLk, hcat, ho, hK⟩ := hrel
    have HCat : Hid (cat9 L = s.extract 0 a) := hcat
    have HLk : Hid (L.length = k) := hLk
    have hs := HS.out
    have hl := HL.out
    clear hcat
    obtain ⟨vo, vn, vc, rfl⟩ := slice_of_own ho
    by_cases hlt : k < l.length
    · have i1 : (k : Int) < l.length := by omega
      obtain ⟨cb, off, rfl, x0, x1⟩ := HC.out k hlt
      have K0 := K2.trans hK
      have x2 := K0.cell x1 (fun f => f)
      have hb := HN.out l[k] (List.getElem_mem hlt)
      obtain ⟨m, hm⟩ : ∃ m : Nat, l[k] % 64 = m := ⟨_, rfl⟩
      have i2 : (l[k] : Int) % 64 = (m : Int) := by omega
      have i2' : Int.tmod (l[k] : Int) 64 = (m : Int) := by rw [Int.tmod_eq_emod_of_nonneg (by omega)]; exact i2
      have i3 : IntKind.i64.wrap (l[k] : Int) = (l[k] : Int) := by rw [IntKind.wrap_i64]; omega
      have hm64 : m < 64 := by omega
      have i4 : IntKind.i64.wrap (m : Int) = (m : Int) := by rw [IntKind.wrap_i64]; omega
      obtain ⟨r, hr⟩ : ∃ r : Nat, r + a = s.size := ⟨s.size - a, by omega⟩
      have i5 : (s.size : Int) - (a : Int) = (r : Int) := by omega
      have i6 : IntKind.i64.wrap (r : Int) = (r : Int) := by rw [IntKind.wrap_i64]; omega
      generalize (l[k] : Int) = C at *
      clear x0 x1 hm hb K0
      by_cases hgt : r < m
      · have i7 : (r : Int) < (m : Int) := by omega
        obtain ⟨b, hb⟩ : ∃ b : Nat, a + r = b := ⟨_, rfl⟩
        have i8 : IntKind.i64.wrap (b : Int) = (b : Int) := by rw [IntKind.wrap_i64]; omega
        have i9 : (a : Int) + (r : Int) = (b : Int) := by omega
        have i10 : (b : Int) ≤ (s.size : Int) := by omega
        have i11 : (a : Int) ≤ (b : Int) := by omega
        have HBb : Hid (a + r = b) := hb
        clear hb
        have kW : Keep0 wr (wr.alloc (.cells #[.string (s.extract a b)] 9)) := (Keep.refl _ wr).alloc _
        have hmp := tcell_new (w := wr) (t := 9) (s.extract a b)
        have hoW := row_keep ho kW (fun _ _ f => f)
        have KW : Keep0 w2 _ := hK.trans kW
        have zK := hK.size
        clear ho hK
        go_wp2_with (at_builtin; refine wpList_append_own_wide _ rfl _ _ 22 rfl w2.heap.size 9 i0 _ 1 16 Try.underlying22 hi z0 z1 z2 rfl (by decide) _ _ _ rfl hoW ⟨wr.heap.size, 0, none⟩ 1 1 (txCells [s.extract a b]) rfl rfl hmp ?d1p ?d2p ?d3p ?d4p ?_)
        case d1p => intro u hu; simp only [txCells, List.map_cons, List.map_nil, List.mem_cons, List.mem_nil_iff, or_false] at hu; rw [hu]; rfl
        case d2p => unfold maxLen; omega
        case d3p => omega
        case d4p => first | exact KW.size | omega
        intro v3 w3 ho3 hg _
        have K3 : Keep0 w2 w3 := KW.grow0 hg (fun k hk => (hoW.lt k hk).1)
        clear hmp hoW KW kW hg
        obtain ⟨vo', vn', vc', rfl⟩ := slice_of_own ho3
        go_wp2
        go_roundw
        case rel =>
          refine ⟨k + 1, b, L ++ [s.extract a b], by go_num, by go_num, by omega, by omega, by rw [List.length_append, HLk.out]; rfl, ?_, ?_, K3⟩
          · rw [cat_app, HCat.out]
            exact pieces (by omega)
          · rw [txCells_app, List.length_append, HLk.out]
            exact ho3
        case measure => simp [intOf]; omega
      · have i7 : ¬ (r : Int) < (m : Int) := by omega
        obtain ⟨b, hb⟩ : ∃ b : Nat, a + m = b := ⟨_, rfl⟩
        have i8 : IntKind.i64.wrap (b : Int) = (b : Int) := by rw [IntKind.wrap_i64]; omega
        have i9 : (a : Int) + (m : Int) = (b : Int) := by omega
        have i10 : (b : Int) ≤ (s.size : Int) := by omega
        have i11 : (a : Int) ≤ (b : Int) := by omega
        have HBb : Hid (a + m = b) := hb
        clear hb
        have kW : Keep0 wr (wr.alloc (.cells #[.string (s.extract a b)] 9)) := (Keep.refl _ wr).alloc _
        have hmq := tcell_new (w := wr) (t := 9) (s.extract a b)
        have hoW := row_keep ho kW (fun _ _ f => f)
        have KW : Keep0 w2 _ := hK.trans kW
        have zK := hK.size
        clear ho hK
        go_wp2_with (at_builtin; refine wpList_append_own_wide _ rfl _ _ 22 rfl w2.heap.size 9 i0 _ 1 16 Try.underlying22 hi z0 z1 z2 rfl (by decide) _ _ _ rfl hoW ⟨wr.heap.size, 0, none⟩ 1 1 (txCells [s.extract a b]) rfl rfl hmq ?d1q ?d2q ?d3q ?d4q ?_)
        case d1q => intro u hu; simp only [txCells, List.map_cons, List.map_nil, List.mem_cons, List.mem_nil_iff, or_false] at hu; rw [hu]; rfl
        case d2q => unfold maxLen; omega
        case d3q => omega
        case d4q => first | exact KW.size | omega
        intro v3 w3 ho3 hg _
        have K3 : Keep0 w2 w3 := KW.grow0 hg (fun k hk => (hoW.lt k hk).1)
        clear hmq hoW KW kW hg
        obtain ⟨vo', vn', vc', rfl⟩ := slice_of_own ho3
        go_wp2
        go_roundw
        case rel =>
          refine ⟨k + 1, b, L ++ [s.extract a b], by go_num, by go_num, by omega, by omega, by rw [List.length_append, HLk.out]; rfl, ?_, ?_, K3⟩
          · rw [cat_app, HCat.out]
            exact pieces (by omega)
          · rw [txCells_app, List.length_append, HLk.out]
            exact ho3
        case measure => simp [intOf]; omega
    · have i1 : ¬ (k : Int) < l.length := by omega
      have i2 : (a : Int) ≤ (s.size : Int) := by omega
      have HB : Hid (cat9 (L ++ [s.extract a s.size]) = s) := by
        show cat9 (L ++ [s.extract a s.size]) = s
        rw [cat_app, HCat.out]
        exact extract_app ha
      have kW : Keep0 wr (wr.alloc (.cells #[.string (s.extract a s.size)] 9)) := (Keep.refl _ wr).alloc _
      have hma := tcell_new (w := wr) (t := 9) (s.extract a s.size)
      have hoW := row_keep ho kW (fun _ _ f => f)
      have KW : Keep0 w2 _ := hK.trans kW
      have zK := hK.size
      clear ho hK
      go_wp2_with (at_builtin; refine wpList_append_own_wide _ rfl _ _ 22 rfl w2.heap.size 9 i0 _ 1 16 Try.underlying22 hi z0 z1 z2 rfl (by decide) _ _ _ rfl hoW ⟨wr.heap.size, 0, none⟩ 1 1 (txCells [s.extract a s.size]) rfl rfl hma ?d1a ?d2a ?d3a ?d4a ?_)
      case d1a => intro u hu; simp only [txCells, List.map_cons, List.map_nil, List.mem_cons, List.mem_nil_iff, or_false] at hu; rw [hu]; rfl
      case d2a => unfold maxLen; omega
      case d3a => omega
      case d4a => first | exact KW.size | omega
      intro v3 w3 ho3 hg _
      have K3 : Keep0 w2 w3 := KW.grow0 hg (fun k hk => (hoW.lt k hk).1)
      clear hma hoW KW kW hg
      have HLn : Hid ((L ++ [s.extract a s.size]).length ≤ 41) := by
        show (L ++ [s.extract a s.size]).length ≤ 41
        rw [List.length_append]
        show L.length + 1 ≤ 41
        omega
      rw [← txCells_app] at ho3
      generalize hL2 : L ++ [s.extract a s.size] = L2 at *
      obtain ⟨po, pc, rfl, tx, np⟩ := texts_of_row ho3
      have HO : Hid (w3.ownsRow w2.heap.size 9 1 (.slice po L2.length pc) (L.length + 1) (txCells L2)) := by rw [HLk.out]; exact ho3
      have HFW : Hid (FramesAt w2 wo (fs s)) := fw
      have fw3 := fw.keep0 K3
      have hb := HB.out
      have yr := frun_any w3 po pc L2 (by have := HLn.out; unfold maxLen; omega) tx (by rw [hb]; omega)
      obtain ⟨c1, c2, c3⟩ := cut_fs L2
      rw [hb] at c1 c2 c3
      rw [HER.out] at c2 c3
      rw [HLF.out] at c3
      have hfl := fs_len s
      have hfl' : (fs s).length ≤ maxLen := by unfold maxLen; omega
      have HY : Hid (∀ (W : World) (qo : Option Addr) (qc : Nat), TxAt W qo (L2 ++ [more]) → Calls Try.prog 18 #[.slice qo (L2 ++ [more]).length qc] W (RRun (push9s ⟨#[]⟩ (L2 ++ [more])) W)) := fun W qo qc h => frun_any W qo qc _ (by rw [List.length_append]; have := HLn.out; show L2.length + 1 ≤ maxLen; unfold maxLen; omega) h (by rw [cat_app, hb, ByteArray.size_append]; have := HM.out; omega)
      have HX : Hid (ER ≠ 0 → fs (push9s ⟨#[]⟩ (L2 ++ [more])) = fs s ∧ er (push9s ⟨#[]⟩ (L2 ++ [more])) = ER ∧ (kp (push9s ⟨#[]⟩ (L2 ++ [more]))).size = 0) := by
        intro h0
        obtain ⟨d1, d2, d3⟩ := cut_fs (L2 ++ [more])
        rw [cat_app, hb] at d1 d2 d3
        have h1 : er s ≠ 0 := by rw [HER.out]; exact h0
        obtain ⟨e1, e2⟩ := err_stays h1 more
        rw [e1] at d1
        rw [e2] at d2 d3
        rw [if_neg h1] at d3
        exact ⟨d1, d2.trans HER.out, d3⟩
      clear ho3 fw np tx hb hs hl hfl
      go_wp2_with fail
      refine yr.mono ?_
      rintro e w4 ⟨go, gc, rfl, fg, k4⟩
      have fw4 := fw3.keep0 k4
      have C5 := K3.trans k4
      have ho4 := row_keep HO.out k4 (fun _ _ f => f)
      rw [c1] at fg
      rw [c1, c2, c3]
      clear yr fw3 k4 c1 c2 c3 K3 HO
      by_cases h0 : ER = 0
      · subst h0
        rw [if_pos rfl]
        go_wp2_with fail
        refine (same_yes _ _ _ _ _ _ hfl' fg fw4).mono ?_
        rintro e w5 ⟨rfl, hw5⟩
        have K6 := K2.trans (C5.trans (keepN hw5))
        clear hw5 C5 fg fw4
        go_wp2
        go_ret
        exact ⟨rfl, K6⟩
      · rw [if_neg h0]
        have e0 : (ER != 0) = true := by simpa using h0
        have e0' : (ER == 0) = false := by simpa using h0
        obtain ⟨d1, d2, d3⟩ := HX.out h0
        clear HX h0
        go_wp2_with fail
        refine (same_yes _ _ _ _ _ _ hfl' fg fw4).mono ?_
        rintro e w5 ⟨rfl, hw5⟩
        have k5 := keepN hw5
        have C6 := C5.trans k5
        have ho5 := row_keep ho4 k5 (fun _ _ f => f)
        clear hw5 C5 fg fw4 k5 ho4
        have kV : Keep0 w5 (w5.alloc (.cells #[.string more] 9)) := (Keep.refl _ w5).alloc _
        have hmv := tcell_new (w := w5) (t := 9) more
        have hoV := row_keep ho5 kV (fun _ _ f => f)
        have zV : w2.heap.size ≤ w5.heap.size := C6.size
        have zW : w2.heap.size ≤ (w5.alloc (.cells #[.string more] 9)).heap.size := by have := kV.size; omega
        have KV : Keep0 w2 _ := C6.trans kV
        have hLn := HLn.out
        clear ho5 C6 kV
        go_wp2_with (at_builtin; refine wpList_append_own_wide _ rfl _ _ 22 rfl w2.heap.size 9 i0 _ 1 16 Try.underlying22 hi z0 z1 z2 rfl (by decide) _ _ _ rfl hoV ⟨w5.heap.size, 0, none⟩ 1 1 (txCells [more]) rfl rfl hmv ?e1 ?e2 ?e3 ?e4 ?_)
        case e1 => intro u hu; simp only [txCells, List.map_cons, List.map_nil, List.mem_cons, List.mem_nil_iff, or_false] at hu; rw [hu]; rfl
        case e2 => unfold maxLen; omega
        case e3 => omega
        case e4 => first | exact zW | omega
        intro v6 w6 ho6 hg _
        have C7 : Keep0 w2 w6 := KV.grow0 hg (fun k hk => (hoV.lt k hk).1)
        have k6 : Keep0 w w6 := K2.trans C7
        have fw6 := HFW.out.keep0 C7
        rw [← txCells_app] at ho6
        obtain ⟨qo, qc, rfl, tx6, nq⟩ := texts_of_row ho6
        have yr := HY.out _ _ qc tx6
        have el : (L2 ++ [more]).length = L2.length + 1 := by rw [List.length_append]; rfl
        rw [el] at yr ⊢
        clear el
        clear hmv hoV KV hg ho6 tx6 nq HY C7 K2
        go_wp2_with fail
        refine yr.mono ?_
        rintro e w7 ⟨go', gc', rfl, fg, k7⟩
        have fw7 := fw6.keep0 k7
        have K7 := k6.trans k7
        rw [d1] at fg
        rw [d1, d2, d3]
        clear yr fw6 k6 k7 d1 d2 d3
        go_wp2_with fail
        refine (same_yes _ _ _ _ _ _ hfl' fg fw7).mono ?_
        rintro e w8 ⟨rfl, hw8⟩
        have K8 := K7.trans (keepN hw8)
        clear hw8 K7 fg fw7
        go_wp2
        go_ret
        exact ⟨by simp, K8⟩
theorem framerCuts_law (w : World) (s : ByteArray) (hs : s.size ≤ maxLen) (ao : Option Addr) (cap : Nat) (l : List Nat) (hl : l.length ≤ maxLen) (hn : ∀ n ∈ l, n < 65536) (hc : U16sAt w ao l) (more : ByteArray) (hm : more.size ≤ maxLen) :
    Calls Try.prog 4 #[.string s, .slice ao l.length cap, .string more] w fun e w' => e = .returned (.bool true) ∧ Keep0 w w' := by
  by_cases h : s.size ≤ 2000 ∧ l.length ≤ 40 ∧ more.size ≤ 2000
  · exact framerCuts_small w s h.1 ao cap l h.2.1 hn hc more h.2.2
  · exact framerCuts_great w s hs ao cap _ hl more hm h
end Go.Proofs.Ytmgfalkelembkaa
