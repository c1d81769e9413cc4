/-
  Contracts of the document's own All of layer 8, proved over this seat's translation.
  Conditions: the text takes at most 1,000,000 bytes.
-/
import Derived.Test.YtaleennijfefnaaGreatSplitFns
namespace Go.Proofs.YtaleennijfefnaaGreat
open Go.RowKit

theorem results_four {fn : Func} {t u v x : Tmp} (h : fn.results = #[.tmp t, .tmp u, .tmp v, .tmp x]) (tmps : Array Value) (P : Program) (w : World) :
    (results fn tmps).run P w = .ok (.tuple #[tmps.getD t undef, tmps.getD u undef, tmps.getD v undef, tmps.getD x undef]) w := by
  simp [results, h]
theorem rows_ne {w : World} {B e1 e2 s1 s2 n1 n2 : Nat} {v1 v2 : Value} {x1 x2 : List Value} (h1 : w.ownsRow B e1 s1 v1 n1 x1) (h2 : w.ownsRow B e2 s2 v2 n2 x2) (he : e1 ≠ e2) : v2.ownBlock = none ∨ v2.ownBlock ≠ v1.ownBlock := by
  rcases h2.2 with ⟨rfl, _⟩ | ⟨g, cap, cur, rfl, _, hg, _⟩
  · exact .inl rfl
  · right
    rcases h1.2 with ⟨rfl, _⟩ | ⟨g', cap', cur', rfl, _, hg', _⟩
    · exact fun e => by cases e
    · intro e
      have e : some g = some g' := e
      cases e
      rw [hg] at hg'
      cases hg'
      exact he rfl
theorem Keep.grow0 {w w1 w2 : World} {row : Option Nat} (K : Keep0 w w1) (g : w1.grownBy w2 row) (h : ∀ k, row = some k → w.heap.size ≤ k) : Keep0 w w2 :=
  K.step (Keep.grown (B := w.heap.size) g h) (fun i hi hh => by omega)
/-- What the document's All answers. -/
def RAll (FS : List (Fr × Nat)) (LT : Nat) (ER : Int) (w : World) (e : Ending) (w' : World) : Prop := ∃ ao ca bo cb, e = .returned (.tuple #[.slice ao (frsOf FS).length ca, .slice bo (natsOf FS).length cb, .int .i64 (LT : Int), .int .i64 ER]) ∧
  FramesAt w' ao (frsOf FS) ∧ NatsAt w' bo (natsOf FS) ∧ Keep0 w w'
theorem RAll.mk {FS : List (Fr × Nat)} {LT : Nat} {ER : Int} {w w' : World} {e : Ending} {ao bo : Option Addr} {ca cb : Nat} (h : e = .returned (.tuple #[.slice ao (frsOf FS).length ca, .slice bo (natsOf FS).length cb, .int .i64 (LT : Int), .int .i64 ER]))
    (h1 : FramesAt w' ao (frsOf FS)) (h2 : NatsAt w' bo (natsOf FS)) (h3 : Keep0 w w') : RAll FS LT ER w e w' := ⟨ao, ca, bo, cb, h, h1, h2, h3⟩
set_option maxRecDepth 100000 in
set_option maxHeartbeats 4000000 in
theorem rall8_any (w : World) (s : ByteArray) (hs : s.size ≤ 1000000) :
    Calls Tryz.prog 8 #[.string s] w (RAll (sAll s).1 (sAll s).2.1 (sAll s).2.2 w) := by
  have HS : Hid (s.size ≤ 1000000) := hs
  have hs1 : (s.size : Int) ≤ 9223372036854775807 := by omega
  have HE : Hid (∀ {A : List (Fr × Nat)} {N : Nat} {E : Int}, sAll s = (A, N, E) → (sAll s).1 = A ∧ (sAll s).2.1 = N ∧ (sAll s).2.2 = E) := fun h => by rw [h]; exact ⟨rfl, rfl, rfl⟩
  generalize hLT : (sAll s).2.1 = LT at *
  generalize hER : (sAll s).2.2 = ER at *
  generalize hFS : (sAll s).1 = FS at *
  clear hLT hER hFS hs
  obtain ⟨i0, hi, z0, z1, z2⟩ := info_parts frame_info
  obtain ⟨j0, hj, y0, y1, y2⟩ := info_parts int_info
  go_enter Tryz.func8, Tryz.ntmps8
  go_wp2_with fail
  go_loopw [6, 7, 8] (fun o t f wr => ∃ (R : ByteArray) (acc : List (Fr × Nat)) (a : Nat), f = .int .i64 (a : Int) ∧ SAt s acc R a ∧ wr.ownsRow w.heap.size 31 3 o (frsOf acc).length (frCells (frsOf acc)) ∧ wr.ownsRow w.heap.size 3 1 t (natsOf acc).length (natCells (natsOf acc)) ∧ Keep0 w wr) (fun _ _ f _ => s.size - (intOf f).toNat)
  case atStart => exact ⟨s, [], 0, rfl, SAt.zero s, World.ownsRow_nil _ _ _ _, World.ownsRow_nil _ _ _ _, Keep.refl _ w⟩
  case round =>
    obtain ⟨R, acc, a, rfl, hA, ho, ht, hK⟩ := hrel
    have HA : Hid (SAt s acc R a) := hA
    have hsz := hA.size
    have hlen := hA.len
    have htx := hA.text
    have hs := HS.out
    clear hA
    obtain ⟨ao, ca, rfl, x2, x3⟩ := frames_of_row ho
    obtain ⟨bo, cb, rfl, x5, x6⟩ := nats_of_row ht
    by_cases hlt : a < s.size
    · have i1 : (a : Int) < s.size := by omega
      have i2 : (a : Int) ≤ s.size := by omega
      have i3 : a ≤ s.size := by omega
      have yd := fun W => rdecode7_any W R (by unfold maxLen; omega)
      have htx' : s.extract a s.size = R := htx.symm
      by_cases h0 : qErr R 0 0 = 0
      · obtain ⟨n1, n2, n3⟩ := s_step h0
        rw [sFr_val, n1, h0] at yd
        have HM : Hid (SAt s (acc ++ [(sFr R, a)]) (sRest R) (a + sN R)) := HA.out.more h0
        have HN : Hid (9 ≤ sN R) := n2
        have L1 : (frsOf acc).length ≤ 1000000 := by rw [frsOf_len]; omega
        have L2 : (natsOf acc).length ≤ 1000000 := by rw [natsOf_len]; omega
        have F1 : frsOf (acc ++ [(sFr R, a)]) = frsOf acc ++ [sFr R] := by unfold frsOf; rw [List.map_append]; rfl
        have F2 : natsOf (acc ++ [(sFr R, a)]) = natsOf acc ++ [a] := by unfold natsOf; rw [List.map_append]; rfl
        generalize (acc ++ [(sFr R, a)]) = acc' at *
        generalize sFr R = f at *
        unfold Fr.val fr at yd
        have i7 : IntKind.i64.wrap ((a : Int) + (sN R : Int)) = ((a + sN R : Nat) : Int) := by rw [IntKind.wrap_i64]; omega
        have HL : Hid (a + sN R ≤ s.size) := by show a + sN R ≤ s.size; omega
        generalize sN R = N at *
        generalize sRest R = RR at *
        clear HE h0 n1 n2 n3 hlen hsz hs x3 x6 htx x2 x5
        go_wp2_with fail
        refine (yd _).mono ?_
        rintro e w2 ⟨rfl, k2⟩
        have kW := (k2.alloc (.cells #[.int .u8 (f.v.toNat : Int), .int .u8 (f.k.toNat : Int), .string f.p] 31)).alloc (.cells #[.int .u8 (f.v.toNat : Int), .int .u8 (f.k.toNat : Int), .string f.p] 31)
        have hn := fcells_new (w := w2.alloc (.cells #[.int .u8 (f.v.toNat : Int), .int .u8 (f.k.toNat : Int), .string f.p] 31)) (t := 31) f
        rw [World.size_alloc] at hn
        have hoW := row_keep ho kW (fun _ _ f => f)
        have htW := row_keep ht kW (fun _ _ f => f)
        have KW : Keep0 w _ := hK.trans kW
        clear yd ho ht hK k2
        go_wp2_with (at_builtin; refine wpList_append_own_wide _ rfl _ _ 23 rfl w.heap.size 31 i0 _ 3 24 Tryz.underlying23 hi z0 z1 z2 rfl (by decide) _ _ _ rfl hoW ⟨w2.heap.size + 1, 0, none⟩ 1 1 f.cells rfl rfl hn ?c1 ?c2 ?c3 ?c4 ?_)
        case c1 => intro u hu; simp only [Fr.cells, List.mem_cons, List.mem_nil_iff, or_false] at hu; rcases hu with rfl | rfl | rfl <;> rfl
        case c2 => unfold maxLen; omega
        case c3 => omega
        case c4 => exact KW.size
        intro o' w5 ho' hg _
        have ht5 := htW.kept hg (rows_ne hoW htW (by decide))
        have K5 : Keep0 w w5 := KW.grow0 hg (fun k hk => (hoW.lt k hk).1)
        clear hn hoW htW kW KW hg
        obtain ⟨ao', an', ca', rfl⟩ := slice_of_own ho'
        have kV : Keep0 w5 (w5.alloc (.cells #[.int .i64 (a : Int)] 3)) := (Keep.refl _ w5).alloc _
        have hm := ncell_new (w := w5) (t := 3) a
        have hoV := row_keep ho' kV (fun _ _ f => f)
        have htV := row_keep ht5 kV (fun _ _ f => f)
        have KV : Keep0 w _ := K5.trans kV
        clear ho' ht5 kV K5
        go_wp2_with (at_builtin; refine wpList_append_own_wide _ rfl _ _ 27 rfl w.heap.size 3 j0 _ 1 8 Tryz.underlying27 hj y0 y1 y2 rfl (by decide) _ _ _ rfl htV ⟨w5.heap.size, 0, none⟩ 1 1 (natCells [a]) rfl rfl hm ?d1 ?d2 ?d3 ?d4 ?_)
        case d1 => intro u hu; simp only [natCells, List.map_cons, List.map_nil, List.mem_cons, List.mem_nil_iff, or_false] at hu; rw [hu]; rfl
        case d2 => unfold maxLen; omega
        case d3 => omega
        case d4 => exact KV.size
        intro t' w7 ht' hg _
        have ho7 := hoV.kept hg (rows_ne htV hoV (by decide))
        have K7 : Keep0 w w7 := KV.grow0 hg (fun k hk => (htV.lt k hk).1)
        clear hm hoV htV KV hg
        obtain ⟨bo', bn', cb', rfl⟩ := slice_of_own ht'
        go_wp2
        go_roundw
        case rel =>
          refine ⟨RR, acc', a + N, by rw [Int.natCast_add], HM.out, ?_, ?_, K7⟩
          · rw [F1, frCells_app, List.length_append]; exact ho7
          · rw [F2, natCells_app, List.length_append]; exact ht'
        case measure =>
          have e1 := HN.out
          have e2 := HL.out
          simp only [intOf]
          omega
      · have e0 : (qErr R 0 0 != 0) = true := by simpa using h0
        obtain ⟨e1, e2, e3⟩ := HE.out (HA.out.stop h0)
        subst e1
        have i5 : (s.size : Int) - (a : Int) = (LT : Int) := by omega
        have i6 : IntKind.i64.wrap (LT : Int) = LT := by rw [IntKind.wrap_i64]; omega
        rw [qFr_no h0, show qLen R = 0 from if_neg h0] at yd
        unfold fr at yd
        by_cases h2 : qErr R 0 0 = 2
        · have h3 : ER = 0 := by rw [e3]; unfold sErr; rw [if_pos h2]
          subst h3
          rw [h2] at yd
          clear HE h0 e3 e0 h2 hlen hsz hs e2 x3 x6 htx ho ht
          go_wp2_with fail
          refine (yd _).mono ?_
          rintro e w2 ⟨rfl, k2⟩
          have K2 := (hK.trans k2).alloc (.cells #[.int .u8 0, .int .u8 0, .string ⟨#[]⟩] 31)
          have k3 := k2.alloc (.cells #[.int .u8 0, .int .u8 0, .string ⟨#[]⟩] 31)
          have x2 := x2.keep0 k3
          have x5 := x5.keep0 k3
          clear yd k2 k3 hK
          go_wp2
          (try simp only [Exit.inBlock, Exit.then])
          refine bodyPost_ret (results_four rfl _ _ _) rfl ?_
          exact RAll.mk rfl x2 x5 K2
        · have h3 : ER = qErr R 0 0 := by rw [e3]; unfold sErr; rw [if_neg h2]
          have e02 : (qErr R 0 0 == 2) = false := by simpa using h2
          rw [← h3] at yd e0 e02
          clear HE h0 e3 h2 h3 hlen hsz hs e2 x3 x6 htx ho ht
          go_wp2_with fail
          refine (yd _).mono ?_
          rintro e w2 ⟨rfl, k2⟩
          have K2 := (hK.trans k2).alloc (.cells #[.int .u8 0, .int .u8 0, .string ⟨#[]⟩] 31)
          have k3 := k2.alloc (.cells #[.int .u8 0, .int .u8 0, .string ⟨#[]⟩] 31)
          have x2 := x2.keep0 k3
          have x5 := x5.keep0 k3
          clear yd k2 k3 hK
          go_wp2
          (try simp only [Exit.inBlock, Exit.then])
          refine bodyPost_ret (results_four rfl _ _ _) rfl ?_
          exact RAll.mk rfl x2 x5 K2
    · have i1 : ¬ (a : Int) < s.size := by omega
      obtain ⟨e1, e2, e3⟩ := HE.out (HA.out.done (by omega))
      subst e1
      subst e2
      subst e3
      clear HE hlen hsz hs x3 x6 htx ho ht
      go_wp2
      (try simp only [Exit.inBlock, Exit.then])
      refine bodyPost_ret (results_four rfl _ _ _) rfl ?_
      exact RAll.mk rfl x2 x5 hK
end Go.Proofs.YtaleennijfefnaaGreat
