/-
  The contract of the document's own With of pairs, proved over this seat's translation. (Written by tools/refpairs4.py.)
  Conditions: at most 1,000 others; a list's length is within its room.
-/
import Derived.Test.YtmcinehbhgaiaaaRefPairs
import Derived.Test.YtmcinehbhgaiaaaRefVec
namespace Go.Proofs.Ytmcinehbhgaiaaa
open Go.RowKit

/-- What is answered: a list that the call has made, and an error. -/
def RPrsE (r : List Pr × Int) (w : World) (e : Ending) (w' : World) : Prop := ∃ bo c, e = .returned (.tuple #[.slice bo r.1.length c, .int .i64 r.2]) ∧ PrsAt w' bo r.1 ∧ (∀ g off m, bo = some ⟨g, off, m⟩ → w.heap.size ≤ g) ∧ CapP r.1 c ∧ Keep0 w w'
theorem RPrsE.mk {r : List Pr} {x : Int} {w w' : World} {e : Ending} {bo : Option Addr} {c : Nat} (h : e = .returned (.tuple #[.slice bo r.length c, .int .i64 x])) (h1 : PrsAt w' bo r) (h2 : ∀ g off m, bo = some ⟨g, off, m⟩ → w.heap.size ≤ g) (h3 : CapP r c) (h4 : Keep0 w w') : RPrsE (r, x) w e w' := ⟨bo, c, h, h1, h2, h3, h4⟩
theorem RPrsE.bare {r : List Pr × Int} {x : Int} {w w' : World} {e : Ending} (h0 : r = ([], x)) (h : e = .returned (.tuple #[.slice none 0 0, .int .i64 x])) (h4 : Keep0 w w') : RPrsE r w e w' := by
  subst h0
  exact ⟨none, 0, h, prs_nil _ _, (fun _ _ _ e => by cases e), ⟨Nat.le_refl _, Nat.zero_le _⟩, h4⟩
theorem rowP_mono {w : World} {B B' : Nat} {e : TypeId} {sz n : Nat} {v : Value} {xs : List Value} (h : w.ownsRow B e sz v n xs) (hb : B' ≤ B) : w.ownsRow B' e sz v n xs := by
  refine ⟨h.1, ?_⟩
  rcases h.2 with h0 | ⟨g, cap, cur, e1, h2, rest⟩
  · exact .inl h0
  · exact .inr ⟨g, cap, cur, e1, Nat.le_trans hb h2, rest⟩
theorem rowP_cap {w : World} {B : Nat} {e : TypeId} {sz n n' : Nat} {ao : Option Addr} {cap : Nat} {xs : List Value} (h : w.ownsRow B e sz (.slice ao n' cap) n xs) : n ≤ cap ∧ cap ≤ maxLen := by
  rcases h.2 with ⟨e1, e2⟩ | ⟨g, c, cur, e1, _, _, h3, h4, _⟩
  · cases e1
    exact ⟨by omega, Nat.zero_le _⟩
  · cases e1
    exact ⟨h3, h4⟩
theorem wIns_len : ∀ {l : List Pr} {m : Pr}, (wIns false l m).length ≤ l.length + 1
  | [], _ => Nat.le_refl _
  | y :: l, m => by
    rw [wIns]
    cases hb : bl y.n m.n with
    | true =>
      rw [if_neg (fun e => by cases e.2), if_neg (bl_ne hb)]
      have := wIns_len (l := l) (m := m)
      simp only [Bool.not_true, Bool.or_false, List.nil_append, List.singleton_append, List.length_cons]
      omega
    | false =>
      rw [if_pos ⟨rfl, rfl⟩]
      simp only [Bool.not_false, Bool.or_true, wIns_in]
      have h1 := List.length_filter_le (fun z : Pr => decide (z.n ≠ m.n)) l
      split <;> simp only [List.nil_append, List.singleton_append, List.length_cons] <;> omega
theorem wAll_take {l more : List Pr} {k : Nat} (h : k < more.length) : wAll l (more.take (k + 1)) = wIns false (wAll l (more.take k)) more[k] := by
  rw [List.take_succ_eq_append_getElem h]
  unfold wAll
  rw [List.foldl_append]
  rfl
theorem with_bad {l more : List Pr} {k : Nat} (h : k < more.length) (h0 : qCheck [more[k]] ≠ 0) : qWith l more = ([], 1) := by
  unfold qWith
  rw [if_neg]
  rintro ⟨_, h2⟩
  exact h0 (one_okP.2 (oks_iff.1 h2 _ (List.getElem_mem h)))
theorem with_fine {l more : List Pr} (h : qCheck l = 0) (h0 : ∀ k (hk : k < more.length), qCheck [more[k]] = 0) : qWith l more = if 8 < (wAll l more).length then ([], 3) else (wAll l more, 0) := by
  unfold qWith
  rw [if_pos]
  refine ⟨h, oks_iff.2 (fun m hm => ?_)⟩
  obtain ⟨k, hk, rfl⟩ := List.mem_iff_getElem.1 hm
  exact one_okP.1 (h0 k hk)
set_option maxRecDepth 100000 in
set_option maxHeartbeats 8000000 in
theorem rwith14 (w : World) (ao : Option Addr) (cap : Nat) (l : List Pr) (hf : FitsP l) (hc : PrsAt w ao l) (mo : Option Addr) (mc : Nat) (more : List Pr) (hfm : FitsP more) (hcap : CapP more mc) (hcm : PrsAt w mo more) (hml : more.length ≤ 1000) :
    Calls Try.prog 25 #[.slice ao l.length cap, .slice mo more.length mc] w (RPrsE (qWith l more) w) := by
  have hl' : (l.length : Int) ≤ 9223372036854775807 := by have := hf.1; unfold maxLen at this; omega
  have hm' : (more.length : Int) ≤ 9223372036854775807 := by omega
  have yl := rcheck14 w ao cap l hf hc
  have HE : Hid (∀ (W : World) (e : Ending) (x : Int), qWith l more = ([], x) → e = .returned (.tuple #[.slice none 0 0, .int .i64 x]) → Keep0 w W → RPrsE (qWith l more) w e W) := fun _ _ _ h1 h2 h3 => RPrsE.bare h1 h2 h3
  have HM : Hid (∀ (W : World) (e : Ending) (bo : Option Addr) (c : Nat) (R : List Pr), qWith l more = (R, 0) → e = .returned (.tuple #[.slice bo R.length c, .int .i64 0]) → PrsAt W bo R → (∀ g off m, bo = some ⟨g, off, m⟩ → w.heap.size ≤ g) → CapP R c → Keep0 w W → RPrsE (qWith l more) w e W) := by
    intro W e bo c R h1 h2 h3 h4 h5 h6
    rw [h1]
    exact RPrsE.mk h2 h3 h4 h5 h6
  by_cases h0 : qCheck l = 0
  case neg =>
    have HB : Hid (qWith l more = ([], 1)) := if_neg (fun e => h0 e.1)
    have e0 : (qCheck l != 0) = true := by simpa using h0
    clear h0
    generalize qCheck l = C at *
    go_enter Try.func25, Try.ntmps25
    go_wp2_with fail
    refine yl.mono ?_
    rintro e w1 ⟨rfl, hw1⟩
    have k1 := keepN hw1
    clear yl hw1
    go_wp2
    go_ret2
    exact HE.out _ _ _ HB.out rfl k1
  rw [h0] at yl
  have hl8 := ((qCheck_zero l).1 h0).1
  have HF : Hid (∀ x ∈ l, x.n.size ≤ maxLen ∧ x.v.size ≤ maxLen) := hf.2
  have HFm : Hid (∀ x ∈ more, x.n.size ≤ maxLen ∧ x.v.size ≤ maxLen) := hfm.2
  have HC : Hid (PrsAt w mo more) := hcm
  have H0 : Hid (qCheck l = 0) := h0
  have HCa : Hid (PrsAt w ao l) := hc
  have HCap : Hid (CapP more mc) := hcap
  clear hcm h0 hc hf hfm hcap
  go_enter Try.func25, Try.ntmps25
  go_wp2_with fail
  refine yl.mono ?_
  rintro e w1 ⟨rfl, hw1⟩
  have k1 := keepN hw1
  have z1 := k1.size
  clear yl hw1
  have kW : Keep0 w1 (w1.alloc (.cells #[] 59)) := (Keep.refl _ w1).alloc _
  have hoW : (w1.alloc (.cells #[] 59)).ownsRow w1.heap.size 59 2 (.slice (some ⟨w1.heap.size, 0, none⟩) 0 0) ([] : List Pr).length (prCells []) :=
    ⟨rfl, .inr ⟨w1.heap.size, 0, #[], rfl, Nat.le_refl _, (MapKept.heap_alloc w1 _).1, Nat.le_refl _, Nat.zero_le _, rfl, rfl⟩⟩
  have xW := HCa.out.keep0 (k1.trans kW)
  have zW : w1.heap.size ≤ (w1.alloc (.cells #[] 59)).heap.size := kW.size
  have HL : Hid (([] : List Pr).length + l.length ≤ 1000000) := by show 0 + l.length ≤ _; omega
  go_wp2_with (at_builtin; refine wpList_append_prs rfl _ _ rfl rfl rfl hoW xW zW HL.out ?_)
  intro v3 w3 hx3 hg3
  have K3 : Keep0 w w3 := k1.trans (kW.ownGrown hg3 (fun k hk => by cases hk; exact Nat.le_refl _))
  have ho3 : w3.ownsRow w.heap.size 59 2 v3 l.length (prCells l) := rowP_mono (by simpa using hx3) z1
  clear kW hoW xW zW HL hg3 k1 z1 HCa hx3
  generalize hB : w.heap.size = B at *
  generalize w1.heap.size = z1b at *
  clear w1
  obtain ⟨vo3, vn3, vc3, rfl⟩ := sliceE_of_own ho3
  go_wp2_with fail
  go_loopw [6, 7] (fun o i wr => ∃ (k : Nat) (O : List Pr), i = .int .i64 (k : Int) ∧ k ≤ more.length ∧ O.length ≤ 8 + k ∧ Hid (O = wAll l (more.take k)) ∧ Hid (∀ q (hq : q < more.length), q < k → qCheck [more[q]] = 0) ∧ Hid (∀ x ∈ O, x.n.size ≤ maxLen ∧ x.v.size ≤ maxLen) ∧ wr.ownsRow B 59 2 o O.length (prCells O) ∧ Keep0 w wr) (fun _ i _ => more.length - (intOf i).toNat)
  case atStart => exact ⟨0, l, rfl, by omega, by omega, rfl, (fun q hq h => absurd h (Nat.not_lt_zero q)), HF, ho3, K3⟩
  case round =>
    obtain ⟨k, O, rfl, hk, hO, HO, HQ, HS, howr, Kwr⟩ := hrel
    clear ho3 K3 HF w3
    obtain ⟨po, pc, rfl, hOe, hOn, hOc⟩ := prs_of_row howr
    by_cases hlt : k < more.length
    · have i1 : (k : Int) < more.length := by omega
      obtain ⟨b, off, rfl, xx0, xx1⟩ := HC.out k hlt
      have hfx := HFm.out more[k] (List.getElem_mem hlt)
      have yc := fun W (h : PrsAt W (some ⟨b, off + k * 2, none⟩) [more[k]]) => rcheck14 W (some ⟨b, off + k * 2, none⟩) (mc - k) [more[k]] ⟨by show 1 ≤ maxLen; unfold maxLen; omega, fun x hx => by rw [List.mem_singleton.1 hx]; exact hfx⟩ h
      have hcell : PrsAt wr (some ⟨b, off + k * 2, none⟩) [more[k]] := by
        intro i hi
        obtain rfl : i = 0 := by simpa using hi
        exact ⟨b, off + k * 2, rfl, Kwr.cell xx0 (fun f => f), Kwr.cell xx1 (fun f => f)⟩
      replace yc := yc wr hcell
      have el : [more[k]].length = 1 := rfl
      rw [el] at yc
      have hcp := HCap.out
      have j1 : (k : Int) + 1 ≤ mc := by have := hcp.1; omega
      have j2 : (mc : Int) ≤ 9223372036854775807 := by have := hcp.2; unfold maxLen at this; omega
      have j3 : IntKind.i64.wrap ((k : Int) + 1) = (k : Int) + 1 := by rw [IntKind.wrap_i64]; omega
      clear el hcell hcp
      by_cases hq : qCheck [more[k]] = 0
      case neg =>
        have HB : Hid (qWith l more = ([], 1)) := with_bad hlt hq
        have e0 : (qCheck [more[k]] != 0) = true := by simpa using hq
        clear hq xx0 xx1 hfx hOe hOn hOc howr
        generalize qCheck [more[k]] = C at *
        go_wp2_with fail
        refine yc.mono ?_
        rintro e w4 ⟨rfl, hw4⟩
        have K4 := Kwr.trans (keepN hw4)
        clear yc hw4
        go_wp2
        go_ret2
        exact HE.out _ _ _ HB.out rfl K4
      have HX0 : Hid (w.cell? ⟨b, off + k * 2, none⟩ = some (.string more[k].n)) := xx0
      have HX1 : Hid (w.cell? ⟨b, off + k * 2 + 1, none⟩ = some (.string more[k].v)) := xx1
      have HN2 : Hid (wIns false O more[k] = wAll l (more.take (k + 1))) := by
        show _ = _
        rw [wAll_take hlt, ← HO.out]
      have HQ2 : Hid (∀ q (hq : q < more.length), q < k + 1 → qCheck [more[q]] = 0) := by
        intro q hq1 hq2
        by_cases hqk : q = k
        · subst hqk; exact hq
        · exact HQ.out q hq1 (by omega)
      have HS2 : Hid (∀ x ∈ wIns false O more[k], x.n.size ≤ maxLen ∧ x.v.size ≤ maxLen) := by
        intro x hx
        rcases wIns_mem hx with rfl | hx
        · exact hfx
        · exact HS.out x hx
      have HL2 : Hid ((wIns false O more[k]).length ≤ 8 + (k + 1)) := by
        have := wIns_len (l := O) (m := more[k])
        show _ ≤ _
        omega
      rw [hq] at yc
      have hxn := hfx.1
      obtain ⟨R2, hR2⟩ : ∃ R2, wIns false O more[k] = R2 := ⟨_, rfl⟩
      rw [hR2] at HN2 HS2 HL2
      have HR2 : Hid (R2 = [] ++ wIns false (O.drop 0) more[k]) := hR2.symm
      have hcapO := rowP_cap howr
      clear hq HQ HO hfx hR2 xx0 xx1 hOc
      generalize more[k] = X at *
      go_wp2_with fail
      refine yc.mono ?_
      rintro e W2 ⟨rfl, hw2⟩
      have K2 := Kwr.trans (keepN hw2)
      have HOe : Hid (PrsAt W2 po O) := hOe.keep0 (keepN hw2)
      have xx0 := K2.cell HX0.out (fun f => f)
      have xx1 := K2.cell HX1.out (fun f => f)
      have z2 := K2.size
      clear yc hw2 hOe howr Kwr HX0 HX1 wr
      have hOl' : (O.length : Int) ≤ 9223372036854775807 := by omega
      go_wp2_with fail
      go_loopw [8, 9, 10] (fun o q i wr => ∃ (j : Nat) (P : List Pr) (d : Bool), i = .int .i64 (j : Int) ∧ q = .bool d ∧ j ≤ O.length ∧ P.length ≤ 2 * j ∧ Hid (R2 = P ++ wIns d (O.drop j) X) ∧ wr.ownsRow W2.heap.size 59 2 o P.length (prCells P) ∧ Keep0 W2 wr) (fun _ _ i _ => O.length - (intOf i).toNat)
      case atStart => exact ⟨0, [], false, rfl, rfl, by omega, by simp, HR2, World.ownsRow_nil _ _ _ _, Keep.refl _ _⟩
      case round =>
        obtain ⟨j, P, d, rfl, rfl, hj, hP, HK, howr, Kwr⟩ := hrel
        clear HR2
        obtain ⟨vo, vn, vc, rfl⟩ := sliceE_of_own howr
        by_cases hjt : j < O.length
        · have i2 : (j : Int) < O.length := by omega
          obtain ⟨bO, offO, rfl, yy0, yy1⟩ := HOe.out j hjt
          have hy := (HS.out O[j] (List.getElem_mem hjt)).1
          have hd := HK.out
          rw [List.drop_eq_getElem_cons hjt] at hd
          have yq := fun W n => rbelow_q W n O[j].n X.n hy hxn
          have hbl : lBelow O[j].n.data.toList X.n.data.toList = bl O[j].n X.n := rfl
          rw [hbl] at yq
          clear hbl HK
          generalize O[j] = Y at *
          have cy0wr := Kwr.cell yy0 (fun f => f)
          have cy1wr := Kwr.cell yy1 (fun f => f)
          have cx0wr := Kwr.cell xx0 (fun f => f)
          have cx1wr := Kwr.cell xx1 (fun f => f)
          rw [wIns] at hd
          cases d with
          | true =>
            rw [if_neg (fun e => by cases e.1), Bool.true_or, List.nil_append] at hd
            clear yq
            by_cases he : Y.n = X.n
            · rw [if_pos he, List.nil_append] at hd
              have HN : Hid (R2 = P ++ wIns true (O.drop (j + 1)) X) := hd
              rw [he] at yy0 cy0wr
              clear hd
              go_wp2_with fail
              go_quiet (fail)
              have Kwa : Keep0 W2 (wr.drewN nq) := Kwr.drewN nq
              have howa := rowE_keep howr ((Keep.refl _ wr).drewN nq) (fun _ _ f => f)
              clear Kwr howr cy0wr cy1wr cx0wr cx1wr
              generalize wr.drewN nq = wa at *
              clear nq
              have cy0wa := Kwa.cell yy0 (fun f => f)
              have cy1wa := Kwa.cell yy1 (fun f => f)
              have cx0wa := Kwa.cell xx0 (fun f => f)
              have cx1wa := Kwa.cell xx1 (fun f => f)
              go_wp2_with fail
              go_quiet (fail)
              have Kwb : Keep0 W2 (wa.drewN nq) := Kwa.drewN nq
              have howb := rowE_keep howa ((Keep.refl _ wa).drewN nq) (fun _ _ f => f)
              clear Kwa howa cy0wa cy1wa cx0wa cx1wa
              generalize wa.drewN nq = wb at *
              clear nq
              have cy0wb := Kwb.cell yy0 (fun f => f)
              have cy1wb := Kwb.cell yy1 (fun f => f)
              have cx0wb := Kwb.cell xx0 (fun f => f)
              have cx1wb := Kwb.cell xx1 (fun f => f)
              go_wp2
              go_roundw
              case rel => exact ⟨j + 1, P, true, by go_num, by first | rfl | trivial, by omega, by (try simp only [List.length_append, List.length_cons, List.length_nil]); omega, HN, howb, Kwb⟩
              case measure => simp [intOf]; omega
            · rw [if_neg he] at hd
              have HN : Hid (R2 = (P ++ [Y]) ++ wIns true (O.drop (j + 1)) X) := by
                show R2 = (P ++ [Y]) ++ wIns true (O.drop (j + 1)) X
                simpa using hd
              obtain ⟨e2, e3, e4⟩ := txt_ne he
              have e5 : (Y.n == X.n) = false := by rw [beq_toListBytes]; exact e2
              clear hd he
              go_wp2_with fail
              go_quiet (fail)
              have Kwa : Keep0 W2 (wr.drewN nq) := Kwr.drewN nq
              have howa := rowE_keep howr ((Keep.refl _ wr).drewN nq) (fun _ _ f => f)
              clear Kwr howr cy0wr cy1wr cx0wr cx1wr
              generalize wr.drewN nq = wa at *
              clear nq
              have cy0wa := Kwa.cell yy0 (fun f => f)
              have cy1wa := Kwa.cell yy1 (fun f => f)
              have cx0wa := Kwa.cell xx0 (fun f => f)
              have cx1wa := Kwa.cell xx1 (fun f => f)
              go_wp2_with fail
              go_quiet (fail)
              have Kwb : Keep0 W2 (wa.drewN nq) := Kwa.drewN nq
              have howb := rowE_keep howa ((Keep.refl _ wa).drewN nq) (fun _ _ f => f)
              clear Kwa howa cy0wa cy1wa cx0wa cx1wa
              generalize wa.drewN nq = wb at *
              clear nq
              have cy0wb := Kwb.cell yy0 (fun f => f)
              have cy1wb := Kwb.cell yy1 (fun f => f)
              have cx0wb := Kwb.cell xx0 (fun f => f)
              have cx1wb := Kwb.cell xx1 (fun f => f)
              have kWp : Keep0 wb (wb.alloc (.cells #[.string Y.n, .string Y.v] 59)) := (Keep.refl _ wb).alloc _
              have oWp := rowE_keep howb kWp (fun _ _ f => f)
              have xWp := pr_new wb 59 Y
              have KWp := Kwb.trans kWp
              have zWp := KWp.size
              have zp := Kwb.size
              go_wp2_with (at_builtin; refine wpList_append_prs rfl _ _ rfl rfl rfl oWp xWp ?c1p ?c2p ?_)
              case c1p => first | exact zWp | omega
              case c2p => first | omega | (show P.length + 1 ≤ 1000000; omega) | (rw [List.length_append]; show P.length + 1 + 1 ≤ 1000000; omega)
              intro vp wc hxwc hgp
              have howc : wc.ownsRow W2.heap.size 59 2 vp (P ++ [Y]).length (prCells (P ++ [Y])) := by simpa using hxwc
              have Kwc : Keep0 W2 wc := KWp.ownGrown hgp (fun k hk => (oWp.lt k hk).1)
              clear hxwc kWp oWp xWp KWp zWp zp hgp howb Kwb cy0wb cy1wb cx0wb cx1wb
              obtain ⟨aop, anp, acp, rfl⟩ := sliceE_of_own howc
              go_wp2
              go_roundw
              case rel => exact ⟨j + 1, P ++ [Y], true, by go_num, by first | rfl | trivial, by omega, by (try simp only [List.length_append, List.length_cons, List.length_nil]); omega, HN, howc, Kwc⟩
              case measure => simp [intOf]; omega
          | false =>
            cases hb : bl Y.n X.n with
            | true =>
              have he := bl_ne hb
              rw [hb, if_neg (fun e => by cases e.2), if_neg he] at hd
              rw [hb] at yq
              have HN : Hid (R2 = (P ++ [Y]) ++ wIns false (O.drop (j + 1)) X) := by
                show R2 = (P ++ [Y]) ++ wIns false (O.drop (j + 1)) X
                simpa using hd
              obtain ⟨e2, e3, e4⟩ := txt_ne he
              have e5 : (Y.n == X.n) = false := by rw [beq_toListBytes]; exact e2
              clear hd hb he
              go_wp2_with fail
              go_quiet ((go_at_call 36; exact yq _ _))
              have Kwa : Keep0 W2 (wr.drewN nq) := Kwr.drewN nq
              have howa := rowE_keep howr ((Keep.refl _ wr).drewN nq) (fun _ _ f => f)
              clear Kwr howr cy0wr cy1wr cx0wr cx1wr
              generalize wr.drewN nq = wa at *
              clear nq
              have cy0wa := Kwa.cell yy0 (fun f => f)
              have cy1wa := Kwa.cell yy1 (fun f => f)
              have cx0wa := Kwa.cell xx0 (fun f => f)
              have cx1wa := Kwa.cell xx1 (fun f => f)
              go_wp2_with fail
              go_quiet (fail)
              have Kwb : Keep0 W2 (wa.drewN nq) := Kwa.drewN nq
              have howb := rowE_keep howa ((Keep.refl _ wa).drewN nq) (fun _ _ f => f)
              clear Kwa howa cy0wa cy1wa cx0wa cx1wa
              generalize wa.drewN nq = wb at *
              clear nq
              have cy0wb := Kwb.cell yy0 (fun f => f)
              have cy1wb := Kwb.cell yy1 (fun f => f)
              have cx0wb := Kwb.cell xx0 (fun f => f)
              have cx1wb := Kwb.cell xx1 (fun f => f)
              have kWq : Keep0 wb (wb.alloc (.cells #[.string Y.n, .string Y.v] 59)) := (Keep.refl _ wb).alloc _
              have oWq := rowE_keep howb kWq (fun _ _ f => f)
              have xWq := pr_new wb 59 Y
              have KWq := Kwb.trans kWq
              have zWq := KWq.size
              have zq := Kwb.size
              go_wp2_with (at_builtin; refine wpList_append_prs rfl _ _ rfl rfl rfl oWq xWq ?c1q ?c2q ?_)
              case c1q => first | exact zWq | omega
              case c2q => first | omega | (show P.length + 1 ≤ 1000000; omega) | (rw [List.length_append]; show P.length + 1 + 1 ≤ 1000000; omega)
              intro vq wc hxwc hgq
              have howc : wc.ownsRow W2.heap.size 59 2 vq (P ++ [Y]).length (prCells (P ++ [Y])) := by simpa using hxwc
              have Kwc : Keep0 W2 wc := KWq.ownGrown hgq (fun k hk => (oWq.lt k hk).1)
              clear hxwc kWq oWq xWq KWq zWq zq hgq howb Kwb cy0wb cy1wb cx0wb cx1wb
              obtain ⟨aoq, anq, acq, rfl⟩ := sliceE_of_own howc
              go_wp2
              go_roundw
              case rel => exact ⟨j + 1, P ++ [Y], false, by go_num, by first | rfl | trivial, by omega, by (try simp only [List.length_append, List.length_cons, List.length_nil]); omega, HN, howc, Kwc⟩
              case measure => simp [intOf]; omega
            | false =>
              rw [hb, if_pos ⟨rfl, rfl⟩] at hd
              rw [hb] at yq
              clear hb
              by_cases he : Y.n = X.n
              · rw [if_pos he, List.nil_append] at hd
                have HN : Hid (R2 = (P ++ [X]) ++ wIns true (O.drop (j + 1)) X) := by
                  show R2 = (P ++ [X]) ++ wIns true (O.drop (j + 1)) X
                  simpa using hd
                rw [he] at yq yy0 cy0wr
                clear hd
                go_wp2_with fail
                go_quiet ((go_at_call 36; exact yq _ _))
                have Kwa : Keep0 W2 (wr.drewN nq) := Kwr.drewN nq
                have howa := rowE_keep howr ((Keep.refl _ wr).drewN nq) (fun _ _ f => f)
                clear Kwr howr cy0wr cy1wr cx0wr cx1wr
                generalize wr.drewN nq = wa at *
                clear nq
                have cy0wa := Kwa.cell yy0 (fun f => f)
                have cy1wa := Kwa.cell yy1 (fun f => f)
                have cx0wa := Kwa.cell xx0 (fun f => f)
                have cx1wa := Kwa.cell xx1 (fun f => f)
                have kWr : Keep0 wa (wa.alloc (.cells #[.string X.n, .string X.v] 59)) := (Keep.refl _ wa).alloc _
                have oWr := rowE_keep howa kWr (fun _ _ f => f)
                have xWr := pr_new wa 59 X
                have KWr := Kwa.trans kWr
                have zWr := KWr.size
                have zr := Kwa.size
                go_wp2_with (at_builtin; refine wpList_append_prs rfl _ _ rfl rfl rfl oWr xWr ?c1r ?c2r ?_)
                case c1r => first | exact zWr | omega
                case c2r => first | omega | (show P.length + 1 ≤ 1000000; omega) | (rw [List.length_append]; show P.length + 1 + 1 ≤ 1000000; omega)
                intro vr wb hxwb hgr
                have howb : wb.ownsRow W2.heap.size 59 2 vr (P ++ [X]).length (prCells (P ++ [X])) := by simpa using hxwb
                have Kwb : Keep0 W2 wb := KWr.ownGrown hgr (fun k hk => (oWr.lt k hk).1)
                clear hxwb kWr oWr xWr KWr zWr zr hgr howa Kwa cy0wa cy1wa cx0wa cx1wa
                obtain ⟨aor, anr, acr, rfl⟩ := sliceE_of_own howb
                have cy0wb := Kwb.cell yy0 (fun f => f)
                have cy1wb := Kwb.cell yy1 (fun f => f)
                have cx0wb := Kwb.cell xx0 (fun f => f)
                have cx1wb := Kwb.cell xx1 (fun f => f)
                go_wp2_with fail
                go_quiet (fail)
                have Kwc : Keep0 W2 (wb.drewN nq) := Kwb.drewN nq
                have howc := rowE_keep howb ((Keep.refl _ wb).drewN nq) (fun _ _ f => f)
                clear Kwb howb cy0wb cy1wb cx0wb cx1wb
                generalize wb.drewN nq = wc at *
                clear nq
                have cy0wc := Kwc.cell yy0 (fun f => f)
                have cy1wc := Kwc.cell yy1 (fun f => f)
                have cx0wc := Kwc.cell xx0 (fun f => f)
                have cx1wc := Kwc.cell xx1 (fun f => f)
                go_wp2
                go_roundw
                case rel => exact ⟨j + 1, P ++ [X], true, by go_num, by first | rfl | trivial, by omega, by (try simp only [List.length_append, List.length_cons, List.length_nil]); omega, HN, howc, Kwc⟩
                case measure => simp [intOf]; omega
              · rw [if_neg he] at hd
                have HN : Hid (R2 = ((P ++ [X]) ++ [Y]) ++ wIns true (O.drop (j + 1)) X) := by
                  show R2 = ((P ++ [X]) ++ [Y]) ++ wIns true (O.drop (j + 1)) X
                  simpa using hd
                obtain ⟨e2, e3, e4⟩ := txt_ne he
                have e5 : (Y.n == X.n) = false := by rw [beq_toListBytes]; exact e2
                clear hd he
                go_wp2_with fail
                go_quiet ((go_at_call 36; exact yq _ _))
                have Kwa : Keep0 W2 (wr.drewN nq) := Kwr.drewN nq
                have howa := rowE_keep howr ((Keep.refl _ wr).drewN nq) (fun _ _ f => f)
                clear Kwr howr cy0wr cy1wr cx0wr cx1wr
                generalize wr.drewN nq = wa at *
                clear nq
                have cy0wa := Kwa.cell yy0 (fun f => f)
                have cy1wa := Kwa.cell yy1 (fun f => f)
                have cx0wa := Kwa.cell xx0 (fun f => f)
                have cx1wa := Kwa.cell xx1 (fun f => f)
                have kWs : Keep0 wa (wa.alloc (.cells #[.string X.n, .string X.v] 59)) := (Keep.refl _ wa).alloc _
                have oWs := rowE_keep howa kWs (fun _ _ f => f)
                have xWs := pr_new wa 59 X
                have KWs := Kwa.trans kWs
                have zWs := KWs.size
                have zs := Kwa.size
                go_wp2_with (at_builtin; refine wpList_append_prs rfl _ _ rfl rfl rfl oWs xWs ?c1s ?c2s ?_)
                case c1s => first | exact zWs | omega
                case c2s => first | omega | (show P.length + 1 ≤ 1000000; omega) | (rw [List.length_append]; show P.length + 1 + 1 ≤ 1000000; omega)
                intro vs wb hxwb hgs
                have howb : wb.ownsRow W2.heap.size 59 2 vs (P ++ [X]).length (prCells (P ++ [X])) := by simpa using hxwb
                have Kwb : Keep0 W2 wb := KWs.ownGrown hgs (fun k hk => (oWs.lt k hk).1)
                clear hxwb kWs oWs xWs KWs zWs zs hgs howa Kwa cy0wa cy1wa cx0wa cx1wa
                obtain ⟨aos, ans, acs, rfl⟩ := sliceE_of_own howb
                have cy0wb := Kwb.cell yy0 (fun f => f)
                have cy1wb := Kwb.cell yy1 (fun f => f)
                have cx0wb := Kwb.cell xx0 (fun f => f)
                have cx1wb := Kwb.cell xx1 (fun f => f)
                go_wp2_with fail
                go_quiet (fail)
                have Kwc : Keep0 W2 (wb.drewN nq) := Kwb.drewN nq
                have howc := rowE_keep howb ((Keep.refl _ wb).drewN nq) (fun _ _ f => f)
                clear Kwb howb cy0wb cy1wb cx0wb cx1wb
                generalize wb.drewN nq = wc at *
                clear nq
                have cy0wc := Kwc.cell yy0 (fun f => f)
                have cy1wc := Kwc.cell yy1 (fun f => f)
                have cx0wc := Kwc.cell xx0 (fun f => f)
                have cx1wc := Kwc.cell xx1 (fun f => f)
                have kWt : Keep0 wc (wc.alloc (.cells #[.string Y.n, .string Y.v] 59)) := (Keep.refl _ wc).alloc _
                have oWt := rowE_keep howc kWt (fun _ _ f => f)
                have xWt := pr_new wc 59 Y
                have KWt := Kwc.trans kWt
                have zWt := KWt.size
                have zt := Kwc.size
                go_wp2_with (at_builtin; refine wpList_append_prs rfl _ _ rfl rfl rfl oWt xWt ?c1t ?c2t ?_)
                case c1t => first | exact zWt | omega
                case c2t => first | omega | (show P.length + 1 ≤ 1000000; omega) | (rw [List.length_append]; show P.length + 1 + 1 ≤ 1000000; omega)
                intro vt wd hxwd hgt
                have howd : wd.ownsRow W2.heap.size 59 2 vt (P ++ [X] ++ [Y]).length (prCells (P ++ [X] ++ [Y])) := by simpa using hxwd
                have Kwd : Keep0 W2 wd := KWt.ownGrown hgt (fun k hk => (oWt.lt k hk).1)
                clear hxwd kWt oWt xWt KWt zWt zt hgt howc Kwc cy0wc cy1wc cx0wc cx1wc
                obtain ⟨aot, ant, act, rfl⟩ := sliceE_of_own howd
                go_wp2
                go_roundw
                case rel => exact ⟨j + 1, (P ++ [X]) ++ [Y], true, by go_num, by first | rfl | trivial, by omega, by (try simp only [List.length_append, List.length_cons, List.length_nil]); omega, HN, howd, Kwd⟩
                case measure => simp [intOf]; omega
        · have i2 : ¬ (j : Int) < O.length := by omega
          have hd := HK.out
          rw [List.drop_eq_nil_of_le (by omega), wIns] at hd
          have cx0wr := Kwr.cell xx0 (fun f => f)
          have cx1wr := Kwr.cell xx1 (fun f => f)
          clear HK
          cases d with
          | true =>
            rw [if_pos rfl, List.append_nil] at hd
            subst hd
            obtain ⟨po2, pc2, e1, p1, p2, p3⟩ := prs_of_row howr
            cases e1
            have ho9 := rowP_mono howr z2
            have K9 := K2.trans Kwr
            go_wp2
            go_roundw
            case rel => exact ⟨k + 1, _, by go_num, by omega, HL2.out, HN2, HQ2, HS2, by first | exact ho9 | (rw [← hB]; exact ho9), K9⟩
            case measure => simp [intOf]; omega
          | false =>
            rw [if_neg (by decide)] at hd
            have cy0wr : True := trivial
            have cy1wr : True := trivial
            have kWv : Keep0 wr (wr.alloc (.cells #[.string X.n, .string X.v] 59)) := (Keep.refl _ wr).alloc _
            have oWv := rowE_keep howr kWv (fun _ _ f => f)
            have xWv := pr_new wr 59 X
            have KWv := Kwr.trans kWv
            have zWv := KWv.size
            have zv := Kwr.size
            go_wp2_with (at_builtin; refine wpList_append_prs rfl _ _ rfl rfl rfl oWv xWv ?c1v ?c2v ?_)
            case c1v => first | exact zWv | omega
            case c2v => first | omega | (show P.length + 1 ≤ 1000000; omega) | (rw [List.length_append]; show P.length + 1 + 1 ≤ 1000000; omega)
            intro vv wb hxwb hgv
            have howb : wb.ownsRow W2.heap.size 59 2 vv (P ++ [X]).length (prCells (P ++ [X])) := by simpa using hxwb
            have Kwb : Keep0 W2 wb := KWv.ownGrown hgv (fun k hk => (oWv.lt k hk).1)
            clear hxwb kWv oWv xWv KWv zWv zv hgv howr Kwr cy0wr cy1wr cx0wr cx1wr
            obtain ⟨aov, anv, acv, rfl⟩ := sliceE_of_own howb
            subst hd
            obtain ⟨po2, pc2, e1, p1, p2, p3⟩ := prs_of_row howb
            cases e1
            have ho9 := rowP_mono howb z2
            have K9 := K2.trans Kwb
            go_wp2
            go_roundw
            case rel => exact ⟨k + 1, _, by go_num, by omega, HL2.out, HN2, HQ2, HS2, by first | exact ho9 | (rw [← hB]; exact ho9), K9⟩
            case measure => simp [intOf]; omega
    · have i1 : ¬ (k : Int) < more.length := by omega
      have ek : more.take k = more := List.take_of_length_le (by omega)
      have hO2 := HO.out
      rw [ek] at hO2
      have hw := with_fine H0.out (fun q hq => HQ.out q hq (by omega))
      rw [← hO2] at hw
      have hcap := rowP_cap howr
      by_cases h8 : 8 < O.length
      · rw [if_pos h8] at hw
        have HB : Hid (qWith l more = ([], 3)) := hw
        have i2 : (8 : Int) < O.length := by omega
        clear hw hO2 ek hOe hOn hOc
        go_wp2
        go_ret2
        exact HE.out _ _ _ HB.out rfl Kwr
      · rw [if_neg h8] at hw
        have HB : Hid (qWith l more = (O, 0)) := hw
        have i2 : ¬ (8 : Int) < O.length := by omega
        clear hw hO2 ek hOc
        have HOe : Hid (PrsAt wr po O) := hOe
        go_wp2
        go_ret2
        exact HM.out _ _ _ _ _ HB.out rfl HOe.out hOn hcap Kwr
end Go.Proofs.Ytmcinehbhgaiaaa
