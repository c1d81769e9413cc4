/-
  Contracts of the document's own Put of vectors, proved over this seat's translation.
  Conditions: at most 10,000 entries; each actor takes at most the greatest length that a text may have.
-/
import Derived.Test.YtkbihpdfafapeaaRefVec2
namespace Go.Proofs.Ytkbihpdfafapeaa
open Go.RowKit

/-- What is left to do. -/
def pRest (i : Bool) (l : List En) (x : En) : List En := if i = true then l else vPut l x
theorem pRest_yes (l : List En) (x : En) : pRest true l x = l := rfl
theorem pRest_no (l : List En) (x : En) : pRest false l x = vPut l x := rfl
/-- What Put answers: a list that the call has made. -/
def REns (l : List En) (w : World) (e : Ending) (w' : World) : Prop := ∃ ao cap, e = .returned (.slice ao l.length cap) ∧ EnsAt w' ao l ∧ (∀ g off m, ao = some ⟨g, off, m⟩ → w.heap.size ≤ g) ∧ Keep0 w w'
theorem REns.mk {l : List En} {w w' : World} {e : Ending} {ao : Option Addr} {cap : Nat} (h : e = .returned (.slice ao l.length cap)) (h1 : EnsAt w' ao l) (h2 : ∀ g off m, ao = some ⟨g, off, m⟩ → w.heap.size ≤ g) (h3 : Keep0 w w') : REns l w e w' := ⟨ao, cap, h, h1, h2, h3⟩
set_option maxRecDepth 100000 in
set_option maxHeartbeats 8000000 in
theorem rput10 (w : World) (ao : Option Addr) (cap : Nat) (l : List En) (hl : l.length ≤ 10000) (hf : ∀ x ∈ l, x.a.size ≤ maxLen) (hc : EnsAt w ao l) (x : En) (hx : x.a.size ≤ maxLen) :
    Calls Try.prog 35 #[.slice ao l.length cap, .agg #[.string x.a, .int .u64 (x.n : Int)]] w (REns (vPut l x) w) := by
  have hl' : (l.length : Int) ≤ 9223372036854775807 := by omega
  have k0 : Keep0 w (w.alloc (.cells #[.string x.a, .int .u64 (x.n : Int)] 25)) := (Keep.refl _ w).alloc _
  have hz0 : Hid ((w.alloc (.cells #[.string x.a, .int .u64 (x.n : Int)] 25)).heap.size = w.heap.size + 1) := World.size_alloc _ _
  have xx0 : (w.alloc (.cells #[.string x.a, .int .u64 (x.n : Int)] 25)).cell? ⟨w.heap.size, 0, none⟩ = some (.string x.a) := cell_alloc w _ rfl
  have xx1 : (w.alloc (.cells #[.string x.a, .int .u64 (x.n : Int)] 25)).cell? ⟨w.heap.size, 1, none⟩ = some (.int .u64 (x.n : Int)) := cell_alloc w _ rfl
  have HC : Hid (EnsAt (w.alloc (.cells #[.string x.a, .int .u64 (x.n : Int)] 25)) ao l) := hc.keep0 k0
  have HF : Hid (∀ x ∈ l, x.a.size ≤ maxLen) := hf
  have HM : Hid (∀ (W : World) (e : Ending) (bo : Option Addr) (c : Nat), e = .returned (.slice bo (vPut l x).length c) → EnsAt W bo (vPut l x) → (∀ g off m, bo = some ⟨g, off, m⟩ → w.heap.size ≤ g) → Keep0 w W → REns (vPut l x) w e W) := fun _ _ _ _ h1 h2 h3 h4 => REns.mk h1 h2 h3 h4
  obtain ⟨R, hR⟩ : ∃ R, vPut l x = R := ⟨_, rfl⟩
  rw [hR] at HM ⊢
  have HR : Hid (R = [] ++ pRest false (l.drop 0) x) := hR.symm
  clear hc hf hR
  go_enter Try.func35, Try.ntmps35
  go_wp2_with fail
  generalize w.alloc (.cells #[.string x.a, .int .u64 (x.n : Int)] 25) = W0 at *
  generalize hxb : w.heap.size = xb at *
  go_loopw [5, 6, 7] (fun o q i wr => ∃ (k : Nat) (O : List En) (d : Bool), i = .int .i64 (k : Int) ∧ q = .bool d ∧ k ≤ l.length ∧ O.length ≤ 2 * k ∧ Hid (R = O ++ pRest d (l.drop k) x) ∧ wr.ownsRow W0.heap.size 25 2 o O.length (enCells O) ∧ Keep0 W0 wr) (fun _ _ i _ => l.length - (intOf i).toNat)
  case atStart => exact ⟨0, [], false, rfl, rfl, by omega, by simp, HR, World.ownsRow_nil _ _ _ _, Keep.refl _ _⟩
  case round =>
    obtain ⟨k, O, d, rfl, rfl, hk, hO, HK, howr, Kwr⟩ := hrel
    clear HR
    obtain ⟨vo, vn, vc, rfl⟩ := sliceE_of_own howr
    by_cases hlt : k < l.length
    · have i1 : (k : Int) < l.length := by omega
      obtain ⟨b, off, rfl, yy0, yy1⟩ := HC.out k hlt
      have hy := HF.out l[k] (List.getElem_mem hlt)
      have hd := HK.out
      rw [List.drop_eq_getElem_cons hlt] at hd
      have yq := fun W n => rbelow_q W n l[k].a x.a hy hx
      have hbl : lBelow l[k].a.data.toList x.a.data.toList = bl l[k].a x.a := rfl
      rw [hbl] at yq
      clear hbl HK
      generalize l[k] = Y at *
      have cy0wr := Kwr.cell yy0 (fun f => f)
      have cy1wr := Kwr.cell yy1 (fun f => f)
      have cx0wr := Kwr.cell xx0 (fun f => f)
      have cx1wr := Kwr.cell xx1 (fun f => f)
      cases d with
      | true =>
        rw [pRest_yes] at hd
        have HN : Hid (R = (O ++ [Y]) ++ pRest true (l.drop (k + 1)) x) := by
          show R = (O ++ [Y]) ++ pRest true (l.drop (k + 1)) x
          rw [pRest_yes, List.append_assoc]
          exact hd
        clear hd yq
        go_wp2_with fail
        go_quiet (fail)
        have Kwa : Keep0 W0 (wr.drewN nq) := Kwr.drewN nq
        have howa := rowE_keep howr ((Keep.refl _ wr).drewN nq) (fun _ _ f => f)
        clear Kwr howr cy0wr cy1wr cx0wr cx1wr
        generalize wr.drewN nq = wa at *
        clear nq
        have cy0wa := Kwa.cell yy0 (fun f => f)
        have cy1wa := Kwa.cell yy1 (fun f => f)
        have cx0wa := Kwa.cell xx0 (fun f => f)
        have cx1wa := Kwa.cell xx1 (fun f => f)
        have kWp : Keep0 wa (wa.alloc (.cells #[.string Y.a, .int .u64 (Y.n : Int)] 25)) := (Keep.refl _ wa).alloc _
        have oWp := rowE_keep howa kWp (fun _ _ f => f)
        have xWp := en_new wa 25 Y
        have KWp := Kwa.trans kWp
        have zWp := KWp.size
        have zp := Kwa.size
        go_wp2_with (at_builtin; refine wpList_append_ens rfl _ _ rfl rfl rfl oWp xWp ?c1p ?c2p ?_)
        case c1p => first | exact zWp | omega
        case c2p => first | omega | (show O.length + 1 ≤ 1000000; omega) | (rw [List.length_append]; show O.length + 1 + 1 ≤ 1000000; omega)
        intro vp wb hxwb hgp
        have howb : wb.ownsRow W0.heap.size 25 2 vp (O ++ [Y]).length (enCells (O ++ [Y])) := by simpa using hxwb
        have Kwb : Keep0 W0 wb := KWp.ownGrown hgp (fun k hk => (oWp.lt k hk).1)
        clear hxwb kWp oWp xWp KWp zWp zp hgp howa Kwa cy0wa cy1wa cx0wa cx1wa
        obtain ⟨aop, anp, acp, rfl⟩ := sliceE_of_own howb
        go_wp2
        go_roundw
        case rel => exact ⟨k + 1, O ++ [Y], true, by go_num, by first | rfl | trivial, by omega, by simp only [List.length_append, List.length_cons, List.length_nil]; omega, HN, howb, Kwb⟩
        case measure => simp [intOf]; omega
      | false =>
        rw [pRest_no, vPut] at hd
        cases hb : bl Y.a x.a with
        | true =>
          rw [hb, if_pos rfl] at hd
          rw [hb] at yq
          have HN : Hid (R = (O ++ [Y]) ++ pRest false (l.drop (k + 1)) x) := by
            show R = (O ++ [Y]) ++ pRest false (l.drop (k + 1)) x
            rw [pRest_no, List.append_assoc]
            exact hd
          clear hd hb
          go_wp2_with fail
          go_quiet ((go_at_call 38; exact yq _ _))
          have Kwa : Keep0 W0 (wr.drewN nq) := Kwr.drewN nq
          have howa := rowE_keep howr ((Keep.refl _ wr).drewN nq) (fun _ _ f => f)
          clear Kwr howr cy0wr cy1wr cx0wr cx1wr
          generalize wr.drewN nq = wa at *
          clear nq
          have cy0wa := Kwa.cell yy0 (fun f => f)
          have cy1wa := Kwa.cell yy1 (fun f => f)
          have cx0wa := Kwa.cell xx0 (fun f => f)
          have cx1wa := Kwa.cell xx1 (fun f => f)
          have kWq : Keep0 wa (wa.alloc (.cells #[.string Y.a, .int .u64 (Y.n : Int)] 25)) := (Keep.refl _ wa).alloc _
          have oWq := rowE_keep howa kWq (fun _ _ f => f)
          have xWq := en_new wa 25 Y
          have KWq := Kwa.trans kWq
          have zWq := KWq.size
          have zq := Kwa.size
          go_wp2_with (at_builtin; refine wpList_append_ens rfl _ _ rfl rfl rfl oWq xWq ?c1q ?c2q ?_)
          case c1q => first | exact zWq | omega
          case c2q => first | omega | (show O.length + 1 ≤ 1000000; omega) | (rw [List.length_append]; show O.length + 1 + 1 ≤ 1000000; omega)
          intro vq wb hxwb hgq
          have howb : wb.ownsRow W0.heap.size 25 2 vq (O ++ [Y]).length (enCells (O ++ [Y])) := by simpa using hxwb
          have Kwb : Keep0 W0 wb := KWq.ownGrown hgq (fun k hk => (oWq.lt k hk).1)
          clear hxwb kWq oWq xWq KWq zWq zq hgq howa Kwa cy0wa cy1wa cx0wa cx1wa
          obtain ⟨aoq, anq, acq, rfl⟩ := sliceE_of_own howb
          go_wp2
          go_roundw
          case rel => exact ⟨k + 1, O ++ [Y], false, by go_num, by first | rfl | trivial, by omega, by simp only [List.length_append, List.length_cons, List.length_nil]; omega, HN, howb, Kwb⟩
          case measure => simp [intOf]; omega
        | false =>
          rw [hb, if_neg (by decide)] at hd
          rw [hb] at yq
          clear hb
          by_cases he : Y.a = x.a
          · rw [if_pos he] at hd
            by_cases hn : Y.n < x.n
            · rw [if_pos hn] at hd
              have HN : Hid (R = (O ++ [x]) ++ pRest true (l.drop (k + 1)) x) := by
                show R = (O ++ [x]) ++ pRest true (l.drop (k + 1)) x
                rw [pRest_yes, List.append_assoc]
                exact hd
              have i2 : decide ((Y.n : Int) < (x.n : Int)) = true := decide_eq_true (by omega)
              have i3 : (Y.n : Int) < (x.n : Int) := by omega
              rw [he] at yq yy0 cy0wr
              clear hd
              go_wp2_with fail
              go_quiet ((go_at_call 38; exact yq _ _))
              have Kwa : Keep0 W0 (wr.drewN nq) := Kwr.drewN nq
              have howa := rowE_keep howr ((Keep.refl _ wr).drewN nq) (fun _ _ f => f)
              clear Kwr howr cy0wr cy1wr cx0wr cx1wr
              generalize wr.drewN nq = wa at *
              clear nq
              have cy0wa := Kwa.cell yy0 (fun f => f)
              have cy1wa := Kwa.cell yy1 (fun f => f)
              have cx0wa := Kwa.cell xx0 (fun f => f)
              have cx1wa := Kwa.cell xx1 (fun f => f)
              go_wp2_with fail
              go_quiet (fail)
              have Kwb : Keep0 W0 (wa.drewN nq) := Kwa.drewN nq
              have howb := rowE_keep howa ((Keep.refl _ wa).drewN nq) (fun _ _ f => f)
              clear Kwa howa cy0wa cy1wa cx0wa cx1wa
              generalize wa.drewN nq = wb at *
              clear nq
              have cy0wb := Kwb.cell yy0 (fun f => f)
              have cy1wb := Kwb.cell yy1 (fun f => f)
              have cx0wb := Kwb.cell xx0 (fun f => f)
              have cx1wb := Kwb.cell xx1 (fun f => f)
              go_wp2_with fail
              go_quiet (fail)
              have Kwc : Keep0 W0 (wb.drewN nq) := Kwb.drewN nq
              have howc := rowE_keep howb ((Keep.refl _ wb).drewN nq) (fun _ _ f => f)
              clear Kwb howb cy0wb cy1wb cx0wb cx1wb
              generalize wb.drewN nq = wc at *
              clear nq
              have cy0wc := Kwc.cell yy0 (fun f => f)
              have cy1wc := Kwc.cell yy1 (fun f => f)
              have cx0wc := Kwc.cell xx0 (fun f => f)
              have cx1wc := Kwc.cell xx1 (fun f => f)
              have kWr : Keep0 wc (wc.alloc (.cells #[.string x.a, .int .u64 (x.n : Int)] 25)) := (Keep.refl _ wc).alloc _
              have oWr := rowE_keep howc kWr (fun _ _ f => f)
              have xWr := en_new wc 25 x
              have KWr := Kwc.trans kWr
              have zWr := KWr.size
              have zr := Kwc.size
              go_wp2_with (at_builtin; refine wpList_append_ens rfl _ _ rfl rfl rfl oWr xWr ?c1r ?c2r ?_)
              case c1r => first | exact zWr | omega
              case c2r => first | omega | (show O.length + 1 ≤ 1000000; omega) | (rw [List.length_append]; show O.length + 1 + 1 ≤ 1000000; omega)
              intro vr wd hxwd hgr
              have howd : wd.ownsRow W0.heap.size 25 2 vr (O ++ [x]).length (enCells (O ++ [x])) := by simpa using hxwd
              have Kwd : Keep0 W0 wd := KWr.ownGrown hgr (fun k hk => (oWr.lt k hk).1)
              clear hxwd kWr oWr xWr KWr zWr zr hgr howc Kwc cy0wc cy1wc cx0wc cx1wc
              obtain ⟨aor, anr, acr, rfl⟩ := sliceE_of_own howd
              go_wp2
              go_roundw
              case rel => exact ⟨k + 1, O ++ [x], true, by go_num, by first | rfl | trivial, by omega, by simp only [List.length_append, List.length_cons, List.length_nil]; omega, HN, howd, Kwd⟩
              case measure => simp [intOf]; omega
            · rw [if_neg hn] at hd
              have HN : Hid (R = (O ++ [Y]) ++ pRest true (l.drop (k + 1)) x) := by
                show R = (O ++ [Y]) ++ pRest true (l.drop (k + 1)) x
                rw [pRest_yes, List.append_assoc]
                exact hd
              have i2 : decide ((Y.n : Int) < (x.n : Int)) = false := decide_eq_false (by omega)
              have i3 : ¬ (Y.n : Int) < (x.n : Int) := by omega
              rw [he] at yq
              have he2 : x.a = Y.a := he.symm
              rw [he2] at yq xx0 cx0wr
              clear hd he he2
              go_wp2_with fail
              go_quiet ((go_at_call 38; exact yq _ _))
              have Kwa : Keep0 W0 (wr.drewN nq) := Kwr.drewN nq
              have howa := rowE_keep howr ((Keep.refl _ wr).drewN nq) (fun _ _ f => f)
              clear Kwr howr cy0wr cy1wr cx0wr cx1wr
              generalize wr.drewN nq = wa at *
              clear nq
              have cy0wa := Kwa.cell yy0 (fun f => f)
              have cy1wa := Kwa.cell yy1 (fun f => f)
              have cx0wa := Kwa.cell xx0 (fun f => f)
              have cx1wa := Kwa.cell xx1 (fun f => f)
              go_wp2_with fail
              go_quiet (fail)
              have Kwb : Keep0 W0 (wa.drewN nq) := Kwa.drewN nq
              have howb := rowE_keep howa ((Keep.refl _ wa).drewN nq) (fun _ _ f => f)
              clear Kwa howa cy0wa cy1wa cx0wa cx1wa
              generalize wa.drewN nq = wb at *
              clear nq
              have cy0wb := Kwb.cell yy0 (fun f => f)
              have cy1wb := Kwb.cell yy1 (fun f => f)
              have cx0wb := Kwb.cell xx0 (fun f => f)
              have cx1wb := Kwb.cell xx1 (fun f => f)
              go_wp2_with fail
              go_quiet (fail)
              have Kwc : Keep0 W0 (wb.drewN nq) := Kwb.drewN nq
              have howc := rowE_keep howb ((Keep.refl _ wb).drewN nq) (fun _ _ f => f)
              clear Kwb howb cy0wb cy1wb cx0wb cx1wb
              generalize wb.drewN nq = wc at *
              clear nq
              have cy0wc := Kwc.cell yy0 (fun f => f)
              have cy1wc := Kwc.cell yy1 (fun f => f)
              have cx0wc := Kwc.cell xx0 (fun f => f)
              have cx1wc := Kwc.cell xx1 (fun f => f)
              have kWs : Keep0 wc (wc.alloc (.cells #[.string Y.a, .int .u64 (Y.n : Int)] 25)) := (Keep.refl _ wc).alloc _
              have oWs := rowE_keep howc kWs (fun _ _ f => f)
              have xWs := en_new wc 25 Y
              have KWs := Kwc.trans kWs
              have zWs := KWs.size
              have zs := Kwc.size
              go_wp2_with (at_builtin; refine wpList_append_ens rfl _ _ rfl rfl rfl oWs xWs ?c1s ?c2s ?_)
              case c1s => first | exact zWs | omega
              case c2s => first | omega | (show O.length + 1 ≤ 1000000; omega) | (rw [List.length_append]; show O.length + 1 + 1 ≤ 1000000; omega)
              intro vs wd hxwd hgs
              have howd : wd.ownsRow W0.heap.size 25 2 vs (O ++ [Y]).length (enCells (O ++ [Y])) := by simpa using hxwd
              have Kwd : Keep0 W0 wd := KWs.ownGrown hgs (fun k hk => (oWs.lt k hk).1)
              clear hxwd kWs oWs xWs KWs zWs zs hgs howc Kwc cy0wc cy1wc cx0wc cx1wc
              obtain ⟨aos, ans, acs, rfl⟩ := sliceE_of_own howd
              go_wp2
              go_roundw
              case rel => exact ⟨k + 1, O ++ [Y], true, by go_num, by first | rfl | trivial, by omega, by simp only [List.length_append, List.length_cons, List.length_nil]; omega, HN, howd, Kwd⟩
              case measure => simp [intOf]; omega
          · rw [if_neg he] at hd
            have HN : Hid (R = ((O ++ [x]) ++ [Y]) ++ pRest true (l.drop (k + 1)) x) := by
              show R = ((O ++ [x]) ++ [Y]) ++ pRest true (l.drop (k + 1)) x
              rw [pRest_yes, List.append_assoc, List.append_assoc]
              exact hd
            obtain ⟨e2, e3, e4⟩ := txt_ne he
            have e5 : (Y.a == x.a) = false := by rw [beq_toListBytes]; exact e2
            clear hd he
            go_wp2_with fail
            go_quiet ((go_at_call 38; exact yq _ _))
            have Kwa : Keep0 W0 (wr.drewN nq) := Kwr.drewN nq
            have howa := rowE_keep howr ((Keep.refl _ wr).drewN nq) (fun _ _ f => f)
            clear Kwr howr cy0wr cy1wr cx0wr cx1wr
            generalize wr.drewN nq = wa at *
            clear nq
            have cy0wa := Kwa.cell yy0 (fun f => f)
            have cy1wa := Kwa.cell yy1 (fun f => f)
            have cx0wa := Kwa.cell xx0 (fun f => f)
            have cx1wa := Kwa.cell xx1 (fun f => f)
            go_wp2_with fail
            go_quiet (fail)
            have Kwb : Keep0 W0 (wa.drewN nq) := Kwa.drewN nq
            have howb := rowE_keep howa ((Keep.refl _ wa).drewN nq) (fun _ _ f => f)
            clear Kwa howa cy0wa cy1wa cx0wa cx1wa
            generalize wa.drewN nq = wb at *
            clear nq
            have cy0wb := Kwb.cell yy0 (fun f => f)
            have cy1wb := Kwb.cell yy1 (fun f => f)
            have cx0wb := Kwb.cell xx0 (fun f => f)
            have cx1wb := Kwb.cell xx1 (fun f => f)
            have kWt : Keep0 wb (wb.alloc (.cells #[.string x.a, .int .u64 (x.n : Int)] 25)) := (Keep.refl _ wb).alloc _
            have oWt := rowE_keep howb kWt (fun _ _ f => f)
            have xWt := en_new wb 25 x
            have KWt := Kwb.trans kWt
            have zWt := KWt.size
            have zt := Kwb.size
            go_wp2_with (at_builtin; refine wpList_append_ens rfl _ _ rfl rfl rfl oWt xWt ?c1t ?c2t ?_)
            case c1t => first | exact zWt | omega
            case c2t => first | omega | (show O.length + 1 ≤ 1000000; omega) | (rw [List.length_append]; show O.length + 1 + 1 ≤ 1000000; omega)
            intro vt wc hxwc hgt
            have howc : wc.ownsRow W0.heap.size 25 2 vt (O ++ [x]).length (enCells (O ++ [x])) := by simpa using hxwc
            have Kwc : Keep0 W0 wc := KWt.ownGrown hgt (fun k hk => (oWt.lt k hk).1)
            clear hxwc kWt oWt xWt KWt zWt zt hgt howb Kwb cy0wb cy1wb cx0wb cx1wb
            obtain ⟨aot, ant, act, rfl⟩ := sliceE_of_own howc
            have cy0wc := Kwc.cell yy0 (fun f => f)
            have cy1wc := Kwc.cell yy1 (fun f => f)
            have cx0wc := Kwc.cell xx0 (fun f => f)
            have cx1wc := Kwc.cell xx1 (fun f => f)
            have kWu : Keep0 wc (wc.alloc (.cells #[.string Y.a, .int .u64 (Y.n : Int)] 25)) := (Keep.refl _ wc).alloc _
            have oWu := rowE_keep howc kWu (fun _ _ f => f)
            have xWu := en_new wc 25 Y
            have KWu := Kwc.trans kWu
            have zWu := KWu.size
            have zu := Kwc.size
            go_wp2_with (at_builtin; refine wpList_append_ens rfl _ _ rfl rfl rfl oWu xWu ?c1u ?c2u ?_)
            case c1u => first | exact zWu | omega
            case c2u => first | omega | (show O.length + 1 ≤ 1000000; omega) | (rw [List.length_append]; show O.length + 1 + 1 ≤ 1000000; omega)
            intro vu wd hxwd hgu
            have howd : wd.ownsRow W0.heap.size 25 2 vu (O ++ [x] ++ [Y]).length (enCells (O ++ [x] ++ [Y])) := by simpa using hxwd
            have Kwd : Keep0 W0 wd := KWu.ownGrown hgu (fun k hk => (oWu.lt k hk).1)
            clear hxwd kWu oWu xWu KWu zWu zu hgu howc Kwc cy0wc cy1wc cx0wc cx1wc
            obtain ⟨aou, anu, acu, rfl⟩ := sliceE_of_own howd
            go_wp2
            go_roundw
            case rel => exact ⟨k + 1, (O ++ [x]) ++ [Y], true, by go_num, by first | rfl | trivial, by omega, by simp only [List.length_append, List.length_cons, List.length_nil]; omega, HN, howd, Kwd⟩
            case measure => simp [intOf]; omega
    · have i1 : ¬ (k : Int) < l.length := by omega
      have hd := HK.out
      rw [List.drop_eq_nil_of_le (by omega)] at hd
      have cx0wr := Kwr.cell xx0 (fun f => f)
      have cx1wr := Kwr.cell xx1 (fun f => f)
      clear HK
      cases d with
      | true =>
        rw [pRest_yes, List.append_nil] at hd
        subst hd
        obtain ⟨po, pc, e1, p1, p2, p3⟩ := ens_of_row howr
        cases e1
        go_wp2
        go_ret
        exact HM.out _ _ _ _ rfl p1 (fun g off m e => by have := p2 g off m e; have := hz0.out; omega) (k0.trans Kwr)
      | false =>
        rw [pRest_no, vPut] at hd
        have cy0wr : True := trivial
        have cy1wr : True := trivial
        have kWv : Keep0 wr (wr.alloc (.cells #[.string x.a, .int .u64 (x.n : Int)] 25)) := (Keep.refl _ wr).alloc _
        have oWv := rowE_keep howr kWv (fun _ _ f => f)
        have xWv := en_new wr 25 x
        have KWv := Kwr.trans kWv
        have zWv := KWv.size
        have zv := Kwr.size
        go_wp2_with (at_builtin; refine wpList_append_ens rfl _ _ rfl rfl rfl oWv xWv ?c1v ?c2v ?_)
        case c1v => first | exact zWv | omega
        case c2v => first | omega | (show O.length + 1 ≤ 1000000; omega) | (rw [List.length_append]; show O.length + 1 + 1 ≤ 1000000; omega)
        intro vv wb hxwb hgv
        have howb : wb.ownsRow W0.heap.size 25 2 vv (O ++ [x]).length (enCells (O ++ [x])) := by simpa using hxwb
        have Kwb : Keep0 W0 wb := KWv.ownGrown hgv (fun k hk => (oWv.lt k hk).1)
        clear hxwb kWv oWv xWv KWv zWv zv hgv howr Kwr cy0wr cy1wr cx0wr cx1wr
        obtain ⟨aov, anv, acv, rfl⟩ := sliceE_of_own howb
        subst hd
        obtain ⟨po, pc, e1, p1, p2, p3⟩ := ens_of_row howb
        cases e1
        go_wp2
        go_ret
        exact HM.out _ _ _ _ (by first | rfl | simp) p1 (fun g off m e => by have := p2 g off m e; have := hz0.out; omega) (k0.trans Kwb)
end Go.Proofs.Ytkbihpdfafapeaa
