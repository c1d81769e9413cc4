/-
  Contracts of package pairs' placed, rightAlone and With, each proved over this seat's translation; with the others: all that the laws of layer 14 ask of package pairs.
  Conditions: as each says.
-/
import Derived.Test.YtmcinehbhgaiaaaPrD
namespace Go.Proofs.Ytmcinehbhgaiaaa
open Go.RowKit

set_option maxRecDepth 100000 in
set_option maxHeartbeats 8000000 in
theorem placed14_none (w : World) (x : Pr) :
    Calls Try.prog 44 #[.slice none 0 0, .agg #[.string x.n, .string x.v]] w (RIns (wIns false [] x) w) := by
  have kA : Keep0 w (w.alloc (.cells #[.string x.n, .string x.v] 59)) := (Keep.refl _ w).alloc _
  have ys := search14 (w.alloc (.cells #[.string x.n, .string x.v] 59)) none 0 [] x.n (by show 0 ≤ 1000000; decide) List.Pairwise.nil (prs_nil _ _)
  have el : ([] : List Pr).length = 0 := rfl
  rw [el] at ys
  have q0 : (w.alloc (.cells #[.string x.n, .string x.v] 59)).cell? ⟨w.heap.size, 0, none⟩ = some (.string x.n) := cell_alloc _ _ rfl
  have q1 : (w.alloc (.cells #[.string x.n, .string x.v] 59)).cell? ⟨w.heap.size, 1, none⟩ = some (.string x.v) := cell_alloc _ _ rfl
  have hn1 : Hid (0 = ([] : List Pr).length) := rfl
  have hlen1 : Hid (([] : List Pr).length ≤ 1000000) := Nat.zero_le _
  have hn2 : Hid (0 = ([] : List Pr).length) := rfl
  have hlen2 : Hid (([] ++ [x]).length + ([] : List Pr).length ≤ 1000000) := by show 1 + 0 ≤ _; decide
  have HI2 : Hid (([] ++ [x]) ++ [] = wIns false [] x) := rfl
  have HT : Hid (PrsAt w none ([] : List Pr)) := prs_nil _ _
  have HD : Hid (PrsAt w none ([] : List Pr)) := prs_nil _ _
  clear el
  go_enter Try.func44, Try.ntmps44
  go_wp2_with fail
  generalize (w.alloc (.cells #[.string x.n, .string x.v] 59)) = W0 at *
  refine ys.mono ?_
  rintro e w1 ⟨k, d, rfl, hs, k1⟩
  have K1 := kA.trans k1
  have u0 := k1.cell q0 (fun f => f)
  have u1 := k1.cell q1 (fun f => f)
  obtain rfl : k = 0 := by have := hs.1; simpa using this
  obtain rfl : d = false := by
    cases d with
    | false => rfl
    | true => obtain ⟨h, _⟩ := hs.2.2.2.1 rfl; exact absurd h (Nat.lt_irrefl 0)
  clear ys kA k1 q0 q1 hs
  generalize w.heap.size = G at *
  clear W0
  go_wp2_with fail
  refine wp_region_held_drew (S := (fun W => W.cell? ⟨G, 0, none⟩ = some (.string x.n) ∧ W.cell? ⟨G, 1, none⟩ = some (.string x.v))) (by kernel_rfl) ⟨u0, u1⟩ (fun hHeld => ?_)
  have kD : Keep0 w1 w1.drew := (Keep.refl _ w1).drew
  generalize w1.drew = WD at *
  refine wpAnyH_take (i := 0) (v := ?n0v) (by simp only [List.getElem?_toArray, List.getElem?_cons_zero] <;> rfl) (by kernel_rfl) (by kernel_rfl) (by kernel_rfl) (by exact fun _ _ _ h => h) (Or.inl ⟨by rfl, ?n0y⟩) hHeld ?n0r
  case n0y => intro w hSw; (try dsimp only at hSw); go_simp <;> rfl
  simp only [Act.put, List.setIfInBounds_toArray, List.set_cons_zero, List.set_cons_succ]
  refine wpAnyH_take (i := 1) (v := ?n1v) (by simp only [List.getElem?_toArray, List.getElem?_cons_succ, List.getElem?_cons_zero] <;> rfl) (by kernel_rfl) (by kernel_rfl) (by kernel_rfl) (by exact fun _ _ _ h => h) (Or.inl ⟨by rfl, ?n1y⟩) hHeld ?n1r
  case n1y => intro w hSw; (try dsimp only at hSw); go_simp <;> rfl
  simp only [Act.put, List.setIfInBounds_toArray, List.set_cons_zero, List.set_cons_succ]
  refine wpAnyH_take (i := 2) (v := ?n2v) (by simp only [List.getElem?_toArray, List.getElem?_cons_succ, List.getElem?_cons_zero] <;> rfl) (by kernel_rfl) (by kernel_rfl) (by kernel_rfl) (by exact fun _ _ _ h => h) (Or.inl ⟨by rfl, ?n2y⟩) hHeld ?n2r
  case n2y => intro w hSw; (try dsimp only at hSw); go_simp <;> rfl
  simp only [Act.put, List.setIfInBounds_toArray, List.set_cons_zero, List.set_cons_succ]
  refine wpAnyH_take (i := 3) (v := ?n3v) (by simp only [List.getElem?_toArray, List.getElem?_cons_succ, List.getElem?_cons_zero] <;> rfl) (by kernel_rfl) (by kernel_rfl) (by kernel_rfl) (by exact fun _ _ _ h => h) (Or.inl ⟨by rfl, ?n3y⟩) hHeld ?n3r
  case n3y => intro w hSw; (try dsimp only at hSw); go_simp <;> rfl
  simp only [Act.put, List.setIfInBounds_toArray, List.set_cons_zero, List.set_cons_succ]
  refine wpAnyH_take (i := 4) (v := ?n4v) (by simp only [List.getElem?_toArray, List.getElem?_cons_succ, List.getElem?_cons_zero] <;> rfl) (by kernel_rfl) (by kernel_rfl) (by kernel_rfl) (by exact fun _ _ _ h => h) (Or.inl ⟨by rfl, ?n4y⟩) hHeld ?n4r
  case n4y => intro w hSw; (try dsimp only at hSw); go_simp <;> rfl
  simp only [Act.put, List.setIfInBounds_toArray, List.set_cons_zero, List.set_cons_succ]
  refine wpAnyH_take (i := 7) (v := ?n5v) (by simp only [List.getElem?_toArray, List.getElem?_cons_succ, List.getElem?_cons_zero] <;> rfl) (by kernel_rfl) (by kernel_rfl) (by kernel_rfl) (by exact fun _ _ _ h => h) (Or.inl ⟨by rfl, ?n5y⟩) hHeld ?n5r
  case n5y => intro w hSw; (try dsimp only at hSw); go_simp <;> rfl
  simp only [Act.put, List.setIfInBounds_toArray, List.set_cons_zero, List.set_cons_succ]
  have kE : Keep0 w1 (WD.alloc (.cells #[.string x.n, .string x.v] 59)) := kD.alloc _
  have hx5 := pr_new WD 59 x
  refine wpAnyH_ready (rs := [5]) (by kernel_rfl) (by simp) ?_
  refine AllReadyH.cons (by simp only [List.getElem?_toArray, List.getElem?_cons_succ, List.getElem?_cons_zero] <;> rfl) (fun K hK => ?_) AllReadyH.nil
  go_simp
  refine hK.out _ _ ⟨kE.cell u0 (fun f => f), kE.cell u1 (fun f => f)⟩ (fun hHeld => ?_)
  clear hK K
  try simp only [Act.put, List.setIfInBounds_toArray, List.set_cons_zero, List.set_cons_succ]
  generalize (WD.alloc (.cells #[.string x.n, .string x.v] 59)) = W5 at *
  generalize WD.heap.size = g5 at *
  have KE := K1.trans kE
  have hs5 : PrsAt W5 none ([] : List Pr) := HT.out.keep0 KE
  have hd5 : PrsAt W5 none ([] : List Pr) := HD.out.keep0 KE
  have c0 := kE.cell u0 (fun f => f)
  have c1 := kE.cell u1 (fun f => f)
  have z5 := KE.size
  refine wpAnyH_ready (rs := [6]) (by kernel_rfl) (by simp) ?_
  refine AllReadyH.cons (by simp only [List.getElem?_toArray, List.getElem?_cons_succ, List.getElem?_cons_zero] <;> rfl) (fun K hK => ?_) AllReadyH.nil
  refine step_append_full14 rfl _ _ rfl rfl hn1.out hn1.out rfl hs5 hx5 hlen1.out (fun _ => rfl) ?_
  intro v6 w6 g1 g2
  have k6 : Keep0 W5 w6 := (Keep.refl _ W5).ownGrown g2 (fun k hk => by cases hk)
  refine hK.out _ _ ⟨k6.cell c0 (fun f => f), k6.cell c1 (fun f => f)⟩ (fun hHeld => ?_)
  clear hK K
  try simp only [Act.put, List.setIfInBounds_toArray, List.set_cons_zero, List.set_cons_succ]
  have K6 := KE.trans k6
  have z6 := k6.size
  have hd6 : PrsAt w6 none ([] : List Pr) := hd5.keep0 k6
  refine wpAnyH_ready (rs := [8]) (by kernel_rfl) (by simp) ?_
  refine AllReadyH.cons (by simp only [List.getElem?_toArray, List.getElem?_cons_succ, List.getElem?_cons_zero] <;> rfl) (fun K hK => ?_) AllReadyH.nil
  refine step_append_prs14 rfl _ _ rfl rfl rfl hn2.out g1 hd6 z6 hlen2.out ?_
  intro v8 w8 g3 g4
  have k8 : Keep0 W5 w8 := k6.ownGrown g4 (fun k hk => (g1.lt k hk).1)
  refine hK.out _ _ ⟨k8.cell c0 (fun f => f), k8.cell c1 (fun f => f)⟩ (fun hHeld => ?_)
  clear hK K
  try simp only [Act.put, List.setIfInBounds_toArray, List.set_cons_zero, List.set_cons_succ]
  refine wpAnyH_take (i := 9) (v := ?n6v) (by simp only [List.getElem?_toArray, List.getElem?_cons_succ, List.getElem?_cons_zero] <;> rfl) (by kernel_rfl) (by kernel_rfl) (by kernel_rfl) (by exact fun _ _ _ h => h) (Or.inl ⟨by rfl, ?n6y⟩) hHeld ?n6r
  case n6y => intro w hSw; (try dsimp only at hSw); go_simp <;> rfl
  simp only [Act.put, List.setIfInBounds_toArray, List.set_cons_zero, List.set_cons_succ]
  refine wpAnyH_done (by kernel_rfl) ?_ _
  have K8 := KE.trans k8
  rw [HI2.out] at g3
  have g5 := rowP_mono g3 z5
  obtain ⟨ao8, an8, ac8, rfl⟩ := sliceE_of_own g5
  clear hHeld g1 g2 g3 g4 k6 k8 kE kD KE K6 hs5 hd5 hd6 hx5 c0 c1 u0 u1
  go_wp2
  go_ret
  exact ⟨_, rfl, g5, K8⟩
theorem placed14 (w : World) (B : Nat) (v : Value) (l : List Pr) (x : Pr) (hl : l.length ≤ 1000) (hr : Rises l) (ho : w.ownsRow B 59 2 v l.length (prCells l)) :
    Calls Try.prog 44 #[v, .agg #[.string x.n, .string x.v]] w (RIns (wIns false l x) w) := by
  obtain ⟨ao, cap, e, h1, h2, h3⟩ := prs_of_row ho
  subst e
  have hcap := rowP_cap ho
  rcases ho.2 with ⟨e, h0⟩ | ⟨g, c, cur, e, _⟩
  · obtain rfl := List.eq_nil_of_length_eq_zero h0
    cases e
    exact placed14_none w x
  · cases e
    exact placed14_some w g _ l x hl hcap hr h1

/-! ### rightAlone -/
theorem oks_drop {more : List Pr} {k : Nat} (hk : k < more.length) : oks (more.drop k) = ((qCheck [more[k]] == 0) && oks (more.drop (k + 1))) := by
  rw [List.drop_eq_getElem_cons hk]
  rfl
set_option maxRecDepth 100000 in
set_option maxHeartbeats 4000000 in
theorem alone14 (w : World) (ao : Option Addr) (cap : Nat) (more : List Pr) (hf : FitsP more) (hc : PrsAt w ao more) :
    Calls Try.prog 43 #[.slice ao more.length cap] w fun e w' => e = .returned (.bool (oks more)) ∧ Keep0 w w' := by
  have HC : Hid (PrsAt w ao more) := hc
  have HF : Hid (∀ x ∈ more, x.n.size ≤ maxLen ∧ x.v.size ≤ maxLen) := hf.2
  have hl' : (more.length : Int) ≤ 9223372036854775807 := by have := hf.1; unfold maxLen at this; omega
  obtain ⟨r, hr⟩ : ∃ r, oks more = r := ⟨_, rfl⟩
  rw [hr]
  have HR : Hid (oks (more.drop 0) = r) := hr
  clear hc hf hr
  go_enter Try.func43, Try.ntmps43
  go_wp2_with fail
  go_loopw [7] (fun i wr => ∃ (k : Nat), i = .int .i64 (k : Int) ∧ k ≤ more.length ∧ Hid (oks (more.drop k) = r) ∧ Keep0 w wr) (fun i _ => more.length - (intOf i).toNat)
  case atStart => exact ⟨0, rfl, by omega, HR, Keep.refl _ _⟩
  case round =>
    obtain ⟨k, rfl, hk, HK, hK⟩ := hrel
    clear HR
    by_cases hlt : k < more.length
    · have i1 : (k : Int) < more.length := by omega
      obtain ⟨b, off, rfl, p0, p1⟩ := HC.out k hlt
      have x0 := hK.cell p0 (fun f => f)
      have x1 := hK.cell p1 (fun f => f)
      have hfx := HF.out more[k] (List.getElem_mem hlt)
      have kA : Keep0 wr ((wr.alloc (.cells #[.string more[k].n, .string more[k].v] 59)).alloc (.cells #[.string more[k].n, .string more[k].v] 59)) := ((Keep.refl _ wr).alloc _).alloc _
      have hx := pr_new (wr.alloc (.cells #[.string more[k].n, .string more[k].v] 59)) 59 more[k]
      rw [World.size_alloc] at hx
      have yc := check14 _ _ 1 [more[k]] ⟨by show 1 ≤ maxLen; unfold maxLen; decide, fun x hx => by rw [List.mem_singleton.1 hx]; exact hfx⟩ ⟨Nat.le_refl _, by show 1 ≤ maxLen; unfold maxLen; decide⟩ hx
      have el : [more[k]].length = 1 := rfl
      rw [el] at yc
      have K1 := hK.trans kA
      have hd := HK.out
      rw [oks_drop hlt] at hd
      clear p0 p1 HK el hx hfx kA
      by_cases h0 : qCheck [more[k]] = 0
      · rw [h0] at hd yc
        have HD : Hid (oks (more.drop (k + 1)) = r) := by rw [← hd]; rfl
        clear hd h0
        generalize more[k].n = A at *
        generalize more[k].v = V at *
        go_wp2_with fail
        refine yc.mono ?_
        rintro e w1 ⟨rfl, k1⟩
        have K2 := K1.trans k1
        clear yc k1 K1 hK x0 x1
        go_wp2
        go_roundw
        case rel => exact ⟨k + 1, by go_num, by omega, HD, K2⟩
        case measure => simp [intOf]; omega
      · have e0 : (qCheck [more[k]] == 0) = false := beq_eq_false_iff_ne.2 h0
        rw [e0] at hd
        have HD : Hid (false = r) := hd
        have e1 : (qCheck [more[k]] != 0) = true := by simpa using h0
        clear hd h0 e0
        generalize qCheck [more[k]] = C at *
        generalize more[k].n = A at *
        generalize more[k].v = V at *
        go_wp2_with fail
        refine yc.mono ?_
        rintro e w1 ⟨rfl, k1⟩
        have K2 := K1.trans k1
        clear yc k1 K1 hK x0 x1
        go_wp2
        go_ret
        exact ⟨by rw [← HD.out]; rfl, K2⟩
    · have i1 : ¬ (k : Int) < more.length := by omega
      have hd := HK.out
      rw [List.drop_eq_nil_of_le (by omega)] at hd
      have HD : Hid (true = r) := hd
      clear hd HK
      go_wp2
      go_ret
      exact ⟨by rw [← HD.out]; rfl, hK⟩

/-! ### With -/
theorem wIns_ge : ∀ {l : List Pr} {m : Pr}, Rises l → l.length ≤ (wIns false l m).length
  | [], _, _ => Nat.zero_le _
  | y :: l, m, hr => by
    rw [wIns]
    cases hb : bl y.n m.n with
    | true =>
      have ih := wIns_ge (m := m) (List.pairwise_cons.1 hr).2
      rw [if_neg (fun e => by cases e.2), if_neg (bl_ne hb)]
      show _ ≤ (y :: wIns false l m).length
      rw [List.length_cons, List.length_cons]
      omega
    | false =>
      have hf : l.filter (fun z => decide (z.n ≠ m.n)) = l := by
        rw [List.filter_eq_self]
        intro z hzl
        refine decide_eq_true (fun e => ?_)
        have := (List.pairwise_cons.1 hr).1 z hzl
        rw [e, hb] at this
        cases this
      rw [if_pos ⟨rfl, rfl⟩]
      show _ ≤ ([m] ++ ((if y.n = m.n then [] else [y]) ++ wIns true l m)).length
      rw [wIns_in, hf, List.length_append, List.length_append, List.length_cons]
      show _ ≤ 1 + _
      omega
theorem wAll_ge : ∀ {more l : List Pr}, GoodP l → (∀ m ∈ more, m.ok) → l.length ≤ (wAll l more).length
  | [], _, _, _ => Nat.le_refl _
  | m :: more, _, h, hm => Nat.le_trans (wIns_ge h.2) (wAll_ge (more := more) (wIns_good h (hm m List.mem_cons_self)) (fun x hx => hm x (List.mem_cons_of_mem _ hx)))
theorem wAll_two {l more : List Pr} (k : Nat) : wAll l more = wAll (wAll l (more.take k)) (more.drop k) := by
  unfold wAll
  rw [← List.foldl_append, List.take_append_drop]
set_option maxRecDepth 100000 in
set_option maxHeartbeats 8000000 in
theorem with14 (w : World) (ao : Option Addr) (cap : Nat) (l : List Pr) (mo : Option Addr) (mc : Nat) (more : List Pr) (okl : Ok14 l cap) (hc : PrsAt w ao l) (okm : Ok14 more mc) (hcm : PrsAt w mo more) (hml : more.length ≤ 1000) :
    Calls Try.prog 24 #[.slice ao l.length cap, .slice mo more.length mc] w (RPrsE (qWith l more) w) := by
  have hl' : (l.length : Int) ≤ 9223372036854775807 := by have := okl.1; omega
  have hm' : (more.length : Int) ≤ 9223372036854775807 := by omega
  have yl := check14 w ao cap l okl.fits okl.2.2 hc
  have HE : Hid (∀ (W : World) (e : Ending) (x : Int), qWith l more = ([], x) → e = .returned (.tuple #[.slice none 0 0, .int .i64 x]) → Keep0 w W → RPrsE (qWith l more) w e W) := fun _ _ _ h1 h2 h3 => RPrsE.bare h1 h2 h3
  have HM : Hid (∀ (W : World) (e : Ending) (bo : Option Addr) (c : Nat) (R : List Pr), qWith l more = (R, 0) → e = .returned (.tuple #[.slice bo R.length c, .int .i64 0]) → PrsAt W bo R → (∀ g off m, bo = some ⟨g, off, m⟩ → w.heap.size ≤ g) → CapP R c → Keep0 w W → RPrsE (qWith l more) w e W) := by
    intro W e bo c R h1 h2 h3 h4 h5 h6
    rw [h1]
    exact RPrsE.mk h2 h3 h4 h5 h6
  by_cases h0 : qCheck l = 0
  case neg =>
    have HB : Hid (qWith l more = ([], 1)) := if_neg (fun e => h0 e.1)
    have e0 : (qCheck l != 0) = true := by simpa using h0
    clear h0
    generalize qCheck l = C at *
    go_enter Try.func24, Try.ntmps24
    go_wp2_with fail
    refine yl.mono ?_
    rintro e w1 ⟨rfl, k1⟩
    clear yl
    go_wp2
    go_ret2
    exact HE.out _ _ _ HB.out rfl k1
  rw [h0] at yl
  have ya := fun W (K : Keep0 w W) => alone14 W mo mc more okm.fits (hcm.keep0 K)
  cases ho : oks more with
  | false =>
    have HB : Hid (qWith l more = ([], 1)) := if_neg (fun e => by rw [ho] at e; cases e.2)
    rw [ho] at ya
    clear h0 ho
    go_enter Try.func24, Try.ntmps24
    go_wp2_with fail
    refine yl.mono ?_
    rintro e w1 ⟨rfl, k1⟩
    have ya := ya w1 k1
    clear yl
    go_wp2_with fail
    refine ya.mono ?_
    rintro e w2 ⟨rfl, k2⟩
    have K2 := k1.trans k2
    clear ya k1 k2
    go_wp2
    go_ret2
    exact HE.out _ _ _ HB.out rfl K2
  | true =>
    rw [ho] at ya
    obtain ⟨h8, hg0⟩ := (qCheck_zero l).1 h0
    have hok := oks_iff.1 ho
    have HQ : Hid (qWith l more = if 8 < (wAll l more).length then ([], 3) else (wAll l more, 0)) := if_pos ⟨h0, ho⟩
    have HC : Hid (PrsAt w mo more) := hcm
    have HCa : Hid (PrsAt w ao l) := hc
    have HO : Hid (∀ m ∈ more, m.ok) := hok
    have HG0 : Hid (GoodP l) := hg0
    have HL : Hid (([] : List Pr).length + l.length ≤ 1000000) := by show 0 + l.length ≤ _; omega
    clear h0 ho hok hg0 hc hcm okl okm
    go_enter Try.func24, Try.ntmps24
    go_wp2_with fail
    refine yl.mono ?_
    rintro e w1 ⟨rfl, k1⟩
    have ya := ya w1 k1
    clear yl
    go_wp2_with fail
    refine ya.mono ?_
    rintro e w2 ⟨rfl, k2⟩
    have K2 := k1.trans k2
    clear ya k1 k2
    have hoW : w2.ownsRow w.heap.size 59 2 (.slice none 0 0) ([] : List Pr).length (prCells []) := World.ownsRow_nil _ _ _ _
    have xW := HCa.out.keep0 K2
    have zW := K2.size
    go_wp2_with (at_builtin; refine wpList_append_prs rfl _ _ rfl rfl rfl hoW xW zW HL.out ?_)
    intro v3 w3 hx3 hg3
    have K3 : Keep0 w w3 := K2.ownGrown hg3 (fun k hk => by cases hk)
    have ho3 : w3.ownsRow w.heap.size 59 2 v3 l.length (prCells l) := by simpa using hx3
    clear hoW xW zW hg3 K2 hx3 HL HCa
    generalize hB : w.heap.size = B at *
    clear w1 w2
    obtain ⟨vo3, vn3, vc3, rfl⟩ := sliceE_of_own ho3
    go_wp2_with fail
    go_loopw [6, 21] (fun o i wr => ∃ (k : Nat) (O : List Pr), i = .int .i64 (k : Int) ∧ k ≤ more.length ∧ O.length ≤ 8 ∧ Hid (O = wAll l (more.take k)) ∧ Hid (GoodP O) ∧ wr.ownsRow B 59 2 o O.length (prCells O) ∧ Keep0 w wr) (fun _ i _ => more.length - (intOf i).toNat)
    case atStart => exact ⟨0, l, rfl, by omega, h8, rfl, HG0, ho3, K3⟩
    case round =>
      obtain ⟨k, O, rfl, hk, hO8, HOe, HGo, howr, Kwr⟩ := hrel
      clear ho3 K3 HG0 w3 h8
      obtain ⟨po, pc, rfl, hOe, hOn, hOc⟩ := prs_of_row howr
      by_cases hlt : k < more.length
      · have i1 : (k : Int) < more.length := by omega
        obtain ⟨b, off, rfl, p0, p1⟩ := HC.out k hlt
        have x0 := Kwr.cell p0 (fun f => f)
        have x1 := Kwr.cell p1 (fun f => f)
        have kA : Keep0 wr (wr.alloc (.cells #[.string more[k].n, .string more[k].v] 59)) := (Keep.refl _ wr).alloc _
        have yp := placed14 (wr.alloc (.cells #[.string more[k].n, .string more[k].v] 59)) B (.slice po O.length pc) O more[k] (by omega) HGo.out.2 (rowE_keep howr kA (fun _ _ f => f))
        have KA := Kwr.trans kA
        have zA := KA.size
        have hmk := HO.out more[k] (List.getElem_mem hlt)
        have HR2 : Hid (wIns false O more[k] = wAll l (more.take (k + 1))) := by show _ = _; rw [wAll_take hlt, ← HOe.out]
        have HG2 : Hid (GoodP (wIns false O more[k])) := wIns_good HGo.out hmk
        have HX : Hid (8 < (wIns false O more[k]).length → qWith l more = ([], 3)) := by
          intro h
          have h2 := wAll_ge (more := more.drop (k + 1)) HG2.out (fun m hm => HO.out m (List.mem_of_mem_drop hm))
          rw [HR2.out, ← wAll_two] at h2
          rw [HQ.out, if_pos]
          rw [HR2.out] at h
          exact Nat.lt_of_lt_of_le h h2
        have hlen := wIns_len (l := O) (m := more[k])
        obtain ⟨R2, hR2⟩ : ∃ R2, wIns false O more[k] = R2 := ⟨_, rfl⟩
        rw [hR2] at yp HR2 HG2 HX hlen
        have i2 : (R2.length : Int) ≤ 9 := by omega
        clear p0 p1 hmk hR2 kA hOe hOn hOc HGo howr Kwr HOe
        generalize more[k].n = A at *
        generalize more[k].v = V at *
        go_wp2_with fail
        refine yp.mono ?_
        rintro e w4 ⟨v4, rfl, ho4, k4⟩
        have K4 := KA.trans k4
        rw [World.size_alloc] at ho4
        have ho5 : w4.ownsRow B 59 2 v4 R2.length (prCells R2) := rowP_mono ho4 (by rw [World.size_alloc] at zA; omega)
        clear ho4 yp k4 KA zA x0 x1
        obtain ⟨po4, pc4, rfl, hOe4, hOn4, hOc4⟩ := prs_of_row ho5
        by_cases h9 : 8 < R2.length
        · have HB : Hid (qWith l more = ([], 3)) := HX.out h9
          have i3 : (8 : Int) < R2.length := by omega
          clear HX hOe4 hOn4 hOc4 ho5
          go_wp2
          go_ret2
          exact HE.out _ _ _ HB.out rfl K4
        · have i3 : ¬ (8 : Int) < R2.length := by omega
          clear HX hOe4 hOn4 hOc4
          go_wp2
          go_roundw
          case rel => exact ⟨k + 1, R2, by go_num, by omega, by omega, HR2, HG2, ho5, K4⟩
          case measure => simp [intOf]; omega
      · have i1 : ¬ (k : Int) < more.length := by omega
        have ek : more.take k = more := List.take_of_length_le (by omega)
        have hO2 := HOe.out
        rw [ek] at hO2
        have hw := HQ.out
        rw [← hO2, if_neg (by omega)] at hw
        have HB : Hid (qWith l more = (O, 0)) := hw
        have hcap := rowP_cap howr
        clear hw hO2 ek hOc
        have HOe2 : Hid (PrsAt wr po O) := hOe
        go_wp2
        go_ret2
        exact HM.out _ _ _ _ _ HB.out rfl HOe2.out hOn hcap Kwr
theorem pairCode : PairCode where
  check := fun w ao cap l ok hc => check14 w ao cap l ok.fits ok.2.2 hc
  take := fun h _ => take14 h
  put := fun ao cap l h ht ok hsz hc hn => put14 ao cap l h ht ok hsz hc hn
  value := fun w ao cap l s ok hc _ => value14 w ao cap l s ok.fits.1 hc
  with' := fun w ao cap l mo mc more okl hc okm hcm hml => with14 w ao cap l mo mc more okl hc okm hcm hml
  same := fun w ao ca l bo cb m okl ha okm hb => same14 w ao bo ca cb l m okl.fits.1 okm.fits.1 ha hb
end Go.Proofs.Ytmcinehbhgaiaaa
