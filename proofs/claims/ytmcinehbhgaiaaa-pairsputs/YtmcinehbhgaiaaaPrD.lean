/-
  Contracts of package pairs' placed, each proved over this seat's translation.
  Conditions: as each says.
-/
import Derived.Test.YtmcinehbhgaiaaaPrC
import Derived.Test.YtmcinehbhgaiaaaL1
import Derived.Deep.RegionHeld3
import Derived.ArgAppend
namespace Go.Proofs.Ytmcinehbhgaiaaa
open Go.RowKit

theorem wIns_spot : ∀ {l : List Pr} {x : Pr} {k : Nat} {d : Bool}, Rises l → Spot l x.n k d → wIns false l x = (l.take k ++ [x]) ++ (if d = true then l.drop (k + 1) else l.drop k)
  | [], x, k, d, _, h => by
    have hk : k = 0 := by have := h.1; simpa using this
    subst hk
    cases d with
    | true => obtain ⟨h0, _⟩ := h.2.2.2.1 rfl; exact absurd h0 (Nat.lt_irrefl 0)
    | false => rfl
  | y :: l, x, 0, d, hr, h => by
    obtain ⟨_, _, h2, h3⟩ := h
    have hy : bl y.n x.n = false := h2 0 (Nat.succ_pos _) (Nat.le_refl _)
    have hz : ∀ z ∈ l, bl y.n z.n = true := (List.pairwise_cons.1 hr).1
    have hf : l.filter (fun z => decide (z.n ≠ x.n)) = l := by
      rw [List.filter_eq_self]
      intro z hzl
      refine decide_eq_true (fun e => ?_)
      have := hz z hzl
      rw [e, hy] at this
      cases this
    rw [wIns, if_pos ⟨rfl, hy⟩, hy]
    show [x] ++ ((if y.n = x.n then [] else [y]) ++ wIns true l x) = _
    rw [wIns_in, hf]
    by_cases e : y.n = x.n
    · have hd : d = true := h3.2 ⟨Nat.succ_pos _, e⟩
      rw [if_pos e, if_pos hd]
      rfl
    · have hd : ¬ d = true := fun hd => by obtain ⟨_, e2⟩ := h3.1 hd; exact e e2
      rw [if_neg e, if_neg hd]
      rfl
  | y :: l, x, k + 1, d, hr, h => by
    obtain ⟨h0, h1, h2, h3⟩ := h
    have hy : bl y.n x.n = true := h1 0 (Nat.succ_pos _) (Nat.succ_pos _)
    have hs : Spot l x.n k d := by
      refine ⟨by simpa using h0, fun t ht hk => h1 (t + 1) (by simpa using ht) (by omega), fun t ht hk => h2 (t + 1) (by simpa using ht) (by omega), h3.trans ⟨?_, ?_⟩⟩
      · rintro ⟨a, b⟩; exact ⟨by simpa using a, b⟩
      · rintro ⟨a, b⟩; exact ⟨by simpa using a, b⟩
    rw [wIns, if_neg (fun e => by rw [hy] at e; cases e.2), if_neg (bl_ne hy), hy]
    show y :: wIns false l x = _
    rw [wIns_spot (List.pairwise_cons.1 hr).2 hs]
    rfl
theorem wIns_long {l : List Pr} {x : Pr} {k : Nat} {d : Bool} (hr : Rises l) (h : Spot l x.n k d) : l.length ≤ (wIns false l x).length := by
  rw [wIns_spot hr h]
  have := h.1
  split <;> simp only [List.length_append, List.length_take, List.length_drop, List.length_cons, List.length_nil] <;> omega

/-! ### appending -/
/-- append onto a slice without room. -/
theorem run_append_full14 {w : World} {l : List Pr} {ao mo : Option Addr} {c : Nat} {x : Pr} (ty : TypeId) (hs : PrsAt w ao l) (hx : PrsAt w mo [x]) (hlen : l.length ≤ 1000000) (hn : ao = none → l = []) :
    ∃ v' w', (Builtin.append_ #[22, 22] ty #[.slice ao l.length l.length, .slice mo 1 c]).run Try.prog w = .ok v' w' ∧ w'.ownsRow w.heap.size 59 2 v' (l ++ [x]).length (prCells (l ++ [x])) ∧ w.grownBy w' none := by
  cases ao with
  | none =>
    obtain rfl := hn rfl
    obtain ⟨v', w', h1, h2, h3⟩ := run_append_prs (B := w.heap.size) (v := .slice none 0 0) (l := []) (m := [x]) (ao := mo) (c := c) ty (World.ownsRow_nil _ _ _ _) hx (Nat.le_refl _) (by show 0 + 1 ≤ 1000000; decide)
    exact ⟨v', w', h1, h2, h3⟩
  | some a =>
    obtain ⟨i0, hi, z0, z1, z2⟩ := info_parts pair_info
    obtain ⟨b, off, rfl, hc⟩ := prs_cells hx (by show 0 < 1; decide)
    have ha : ∀ j u, (prCells l)[j]? = some u → w.cell? (a.add j) = some u := by
      intro j u hu
      by_cases hl : 0 < l.length
      · obtain ⟨b2, off2, e, hc2⟩ := prs_cells hs hl
        cases e
        exact hc2 j u hu
      · have : l = [] := List.eq_nil_of_length_eq_zero (by omega)
        subst this
        cases hu
    obtain ⟨v', w', h1, h2, h3⟩ := run_append_arg_grows (P := Try.prog) w 22 ty 59 i0 _ 2 32 Try.underlying22 hi z0 z1 z2 rfl (by decide) a l.length l.length (prCells l) (prCells_len l) ha ⟨b, off, none⟩ 1 c (prCells [x]) (prCells_len [x]) hc (by omega) (by unfold maxLen; omega) (by omega)
    exact ⟨v', w', h1, by rw [prCells_app, List.length_append]; exact h2, h3⟩
theorem step_append_full14 {w : World} {ops : Array Oper} {o : Oper} {a : Act} {K : Act → World → Prop} {Q : Exit → Act → World → Prop} {X : Prop} (hgd : o.guard = none) (s y : Operand)
    (ho : o.op = .call { callee := .builtin .append, args := #[s, y], argTypes := #[22, 22] }) {l : List Pr} {ao mo : Option Addr} {c n n2 : Nat} {x : Pr}
    (hs : a.eval s = .slice ao n n2) (hn : n = l.length) (hn2 : n2 = l.length) (hy : a.eval y = .slice mo 1 c) (hsl : PrsAt w ao l) (hx : PrsAt w mo [x]) (hlen : l.length ≤ 1000000) (hno : ao = none → l = [])
    (h : ∀ v' w', w'.ownsRow w.heap.size 59 2 v' (l ++ [x]).length (prCells (l ++ [x])) → w.grownBy w' none → K (a.put o.dst v') w') :
    if Region.wanted o (yielded ops a.tmps) = true then Oper.wp Try.prog o a w K Q else X := by
  have hw : Region.wanted o (yielded ops a.tmps) = true := by simp [Region.wanted, hgd]
  rw [if_pos hw]
  subst hn
  subst hn2
  obtain ⟨v', w', hr, h2, h3⟩ := run_append_full14 (c := c) o.type hsl hx hlen hno
  unfold Oper.wp execOp
  simp only [ho, resolve, invoke, builtin, Sem.run_bind, Sem.run_pure, Result.andThen_ok, List.map_toArray, List.map_cons, List.map_nil, hs, hy, hr]
  exact h v' w' h2 h3
theorem step_append_prs14 {w : World} {ops : Array Oper} {o : Oper} {a : Act} {K : Act → World → Prop} {Q : Exit → Act → World → Prop} {X : Prop} (hgd : o.guard = none) (s x : Operand)
    (ho : o.op = .call { callee := .builtin .append, args := #[s, x], argTypes := #[22, 22] }) {B : Nat} {v : Value} {l m : List Pr} {ao : Option Addr} {c n : Nat}
    (hs : a.eval s = v) (hx : a.eval x = .slice ao n c) (hn : n = m.length) (hown : w.ownsRow B 59 2 v l.length (prCells l)) (hsrc : PrsAt w ao m) (hB : B ≤ w.heap.size) (hlen : l.length + m.length ≤ 1000000)
    (h : ∀ v' w', w'.ownsRow B 59 2 v' (l ++ m).length (prCells (l ++ m)) → w.grownBy w' v.ownBlock → K (a.put o.dst v') w') :
    if Region.wanted o (yielded ops a.tmps) = true then Oper.wp Try.prog o a w K Q else X := by
  have hw : Region.wanted o (yielded ops a.tmps) = true := by simp [Region.wanted, hgd]
  rw [if_pos hw]
  subst hn
  obtain ⟨v', w', hr, h2, h3⟩ := run_append_prs (c := c) o.type hown hsrc hB hlen
  unfold Oper.wp execOp
  simp only [ho, resolve, invoke, builtin, Sem.run_bind, Sem.run_pure, Result.andThen_ok, List.map_toArray, List.map_cons, List.map_nil, hs, hx, hr]
  exact h v' w' h2 h3

/-! ### placed -/
/-- What placed answers: a list that the call has made. -/
def RIns (r : List Pr) (w : World) (e : Ending) (w' : World) : Prop := ∃ v', e = .returned v' ∧ w'.ownsRow w.heap.size 59 2 v' r.length (prCells r) ∧ Keep0 w w'
theorem prs_take14 {w : World} {ao : Option Addr} {l : List Pr} (h : PrsAt w ao l) (n : Nat) : PrsAt w ao (l.take n) := by
  intro i hi
  have hi' : i < l.length := by rw [List.length_take] at hi; omega
  obtain ⟨b, off, e, h1, h2⟩ := h i hi'
  rw [List.getElem_take]
  exact ⟨b, off, e, h1, h2⟩
theorem prs_drop14 {w : World} {b off : Nat} {l : List Pr} (h : PrsAt w (some ⟨b, off, none⟩) l) (n : Nat) : PrsAt w (some ⟨b, off + n * 2, none⟩) (l.drop n) := by
  intro i hi
  have hi' : n + i < l.length := by rw [List.length_drop] at hi; omega
  obtain ⟨b', off', e, h1, h2⟩ := h (n + i) hi'
  cases e
  rw [Nat.add_mul, ← Nat.add_assoc] at h1 h2
  rw [List.getElem_drop]
  exact ⟨b, off + n * 2, rfl, h1, h2⟩
set_option maxRecDepth 100000 in
set_option maxHeartbeats 8000000 in
theorem placed14_some (w : World) (g cap : Nat) (l : List Pr) (x : Pr) (hl : l.length ≤ 1000) (hcap : CapP l cap) (hr : Rises l) (hc : PrsAt w (some ⟨g, 0, none⟩) l) :
    Calls Try.prog 44 #[.slice (some ⟨g, 0, none⟩) l.length cap, .agg #[.string x.n, .string x.v]] w (RIns (wIns false l x) w) := by
  have kA : Keep0 w (w.alloc (.cells #[.string x.n, .string x.v] 59)) := (Keep.refl _ w).alloc _
  have ys := search14 (w.alloc (.cells #[.string x.n, .string x.v] 59)) (some ⟨g, 0, none⟩) cap l x.n (by omega) hr (hc.keep0 kA)
  have q0 : (w.alloc (.cells #[.string x.n, .string x.v] 59)).cell? ⟨w.heap.size, 0, none⟩ = some (.string x.n) := cell_alloc _ _ rfl
  have q1 : (w.alloc (.cells #[.string x.n, .string x.v] 59)).cell? ⟨w.heap.size, 1, none⟩ = some (.string x.v) := cell_alloc _ _ rfl
  have HI : Hid (∀ k d, Spot l x.n k d → wIns false l x = (l.take k ++ [x]) ++ (if d = true then l.drop (k + 1) else l.drop k)) := fun k d h => wIns_spot hr h
  have HC : Hid (PrsAt w (some ⟨g, 0, none⟩) l) := hc
  have hl' : (l.length : Int) ≤ 1000 := by omega
  have hca : (cap : Int) ≤ 9223372036854775807 := by have := hcap.2; unfold maxLen at this; omega
  have hcb := hcap.1
  clear hr hc hcap
  go_enter Try.func44, Try.ntmps44
  go_wp2_with fail
  generalize (w.alloc (.cells #[.string x.n, .string x.v] 59)) = W0 at *
  refine ys.mono ?_
  rintro e w1 ⟨k, d, rfl, hs, k1⟩
  have K1 := kA.trans k1
  have u0 := k1.cell q0 (fun f => f)
  have u1 := k1.cell q1 (fun f => f)
  have hk := hs.1
  have HSp : Hid (Spot l x.n k d) := hs
  have j1 : (k : Int) ≤ l.length := by omega
  have j2 : (k : Int) ≤ cap := by omega
  have j3 : k ≤ cap := by omega
  have j4 : IntKind.i64.wrap ((k : Int) + 1) = (k : Int) + 1 := by rw [IntKind.wrap_i64]; omega
  have HT : Hid (PrsAt w (some ⟨g, 0, none⟩) (l.take k)) := prs_take14 HC.out k
  have hn1 : Hid (k = (l.take k).length) := by show k = _; rw [List.length_take]; omega
  have hlen1 : Hid ((l.take k).length ≤ 1000000) := by show _ ≤ _; rw [List.length_take]; omega
  clear ys kA k1 q0 q1 hs
  generalize w.heap.size = G at *
  clear W0
  cases d with
  | true =>
    have j5 : k < l.length := by obtain ⟨h, _⟩ := HSp.out.2.2.2.1 rfl; exact h
    have j6 : (k : Int) + 1 ≤ l.length := by omega
    have j7 : (k : Int) ≤ (k : Int) + 1 := by omega
    have hn2 : Hid (l.length - (k + 1) = (l.drop (k + 1)).length) := by show _ = _; rw [List.length_drop]
    have hlen2 : Hid ((l.take k ++ [x]).length + (l.drop (k + 1)).length ≤ 1000000) := by
      show _ ≤ _
      rw [List.length_append, List.length_take, List.length_drop]
      show min k l.length + 1 + _ ≤ _
      omega
    have HI2 : Hid ((l.take k ++ [x]) ++ l.drop (k + 1) = wIns false l x) := (HI.out k true HSp.out).symm
    clear HI HSp
    go_wp2_with fail
    case inl h =>
      have HD : Hid (PrsAt w (some ⟨g, 0, none⟩) (l.drop (k + 1))) := by
        show PrsAt _ _ _
        rw [List.drop_eq_nil_of_le (by omega)]
        exact prs_nil _ _
      refine wp_region_held_drew (S := (fun W => W.cell? ⟨G, 0, none⟩ = some (.string x.n) ∧ W.cell? ⟨G, 1, none⟩ = some (.string x.v))) (by kernel_rfl) ⟨u0, u1⟩ (fun hHeld => ?_)
      have kD : Keep0 w1 w1.drew := (Keep.refl _ w1).drew
      generalize w1.drew = WD at *
      refine wpAnyH_take (i := 0) (v := ?ax0v) (by simp only [List.getElem?_toArray, List.getElem?_cons_zero] <;> rfl) (by kernel_rfl) (by kernel_rfl) (by kernel_rfl) (by exact fun _ _ _ h => h) (Or.inl ⟨by rfl, ?ax0y⟩) hHeld ?ax0r
      case ax0y => intro w hSw; (try dsimp only at hSw); go_simp <;> rfl
      simp only [Act.put, List.setIfInBounds_toArray, List.set_cons_zero, List.set_cons_succ]
      refine wpAnyH_take (i := 1) (v := ?ax1v) (by simp only [List.getElem?_toArray, List.getElem?_cons_succ, List.getElem?_cons_zero] <;> rfl) (by kernel_rfl) (by kernel_rfl) (by kernel_rfl) (by exact fun _ _ _ h => h) (Or.inl ⟨by rfl, ?ax1y⟩) hHeld ?ax1r
      case ax1y => intro w hSw; (try dsimp only at hSw); go_simp <;> rfl
      simp only [Act.put, List.setIfInBounds_toArray, List.set_cons_zero, List.set_cons_succ]
      refine wpAnyH_take (i := 2) (v := ?ax2v) (by simp only [List.getElem?_toArray, List.getElem?_cons_succ, List.getElem?_cons_zero] <;> rfl) (by kernel_rfl) (by kernel_rfl) (by kernel_rfl) (by exact fun _ _ _ h => h) (Or.inl ⟨by rfl, ?ax2y⟩) hHeld ?ax2r
      case ax2y => intro w hSw; (try dsimp only at hSw); go_simp <;> rfl
      simp only [Act.put, List.setIfInBounds_toArray, List.set_cons_zero, List.set_cons_succ]
      refine wpAnyH_take (i := 3) (v := ?ax3v) (by simp only [List.getElem?_toArray, List.getElem?_cons_succ, List.getElem?_cons_zero] <;> rfl) (by kernel_rfl) (by kernel_rfl) (by kernel_rfl) (by exact fun _ _ _ h => h) (Or.inl ⟨by rfl, ?ax3y⟩) hHeld ?ax3r
      case ax3y => intro w hSw; (try dsimp only at hSw); go_simp <;> rfl
      simp only [Act.put, List.setIfInBounds_toArray, List.set_cons_zero, List.set_cons_succ]
      refine wpAnyH_take (i := 4) (v := ?ax4v) (by simp only [List.getElem?_toArray, List.getElem?_cons_succ, List.getElem?_cons_zero] <;> rfl) (by kernel_rfl) (by kernel_rfl) (by kernel_rfl) (by exact fun _ _ _ h => h) (Or.inl ⟨by rfl, ?ax4y⟩) hHeld ?ax4r
      case ax4y => intro w hSw; (try dsimp only at hSw); go_simp <;> rfl
      simp only [Act.put, List.setIfInBounds_toArray, List.set_cons_zero, List.set_cons_succ]
      refine wpAnyH_take (i := 7) (v := ?ax5v) (by simp only [List.getElem?_toArray, List.getElem?_cons_succ, List.getElem?_cons_zero] <;> rfl) (by kernel_rfl) (by kernel_rfl) (by kernel_rfl) (by exact fun _ _ _ h => h) (Or.inl ⟨by rfl, ?ax5y⟩) hHeld ?ax5r
      case ax5y => intro w hSw; (try dsimp only at hSw); go_simp <;> rfl
      simp only [Act.put, List.setIfInBounds_toArray, List.set_cons_zero, List.set_cons_succ]
      have kE : Keep0 w1 (WD.alloc (.cells #[.string x.n, .string x.v] 59)) := kD.alloc _
      have hx5 := pr_new WD 59 x
      refine wpAnyH_ready (rs := [5]) (by kernel_rfl) (by simp) ?_
      refine AllReadyH.cons (by simp only [List.getElem?_toArray, List.getElem?_cons_succ, List.getElem?_cons_zero] <;> rfl) (fun K hK => ?_) AllReadyH.nil
      go_simp
      refine hK.out _ _ ⟨kE.cell u0 (fun f => f), kE.cell u1 (fun f => f)⟩ (fun hHeld => ?_)
      clear hK K
      try simp only [Act.put, List.setIfInBounds_toArray, List.set_cons_zero, List.set_cons_succ]
      generalize (WD.alloc (.cells #[.string x.n, .string x.v] 59)) = W5 at *
      generalize WD.heap.size = g5 at *
      have KE := K1.trans kE
      have hs5 : PrsAt W5 (some ⟨g, 0, none⟩) (l.take k) := HT.out.keep0 KE
      have hd5 : PrsAt W5 (some ⟨g, 0, none⟩) (l.drop (k + 1)) := HD.out.keep0 KE
      have c0 := kE.cell u0 (fun f => f)
      have c1 := kE.cell u1 (fun f => f)
      have z5 := KE.size
      refine wpAnyH_ready (rs := [6]) (by kernel_rfl) (by simp) ?_
      refine AllReadyH.cons (by simp only [List.getElem?_toArray, List.getElem?_cons_succ, List.getElem?_cons_zero] <;> rfl) (fun K hK => ?_) AllReadyH.nil
      refine step_append_full14 rfl _ _ rfl rfl hn1.out hn1.out rfl hs5 hx5 hlen1.out (fun e => by cases e) ?_
      intro v6 w6 g1 g2
      have k6 : Keep0 W5 w6 := (Keep.refl _ W5).ownGrown g2 (fun k hk => by cases hk)
      refine hK.out _ _ ⟨k6.cell c0 (fun f => f), k6.cell c1 (fun f => f)⟩ (fun hHeld => ?_)
      clear hK K
      try simp only [Act.put, List.setIfInBounds_toArray, List.set_cons_zero, List.set_cons_succ]
      have K6 := KE.trans k6
      have z6 := k6.size
      have hd6 : PrsAt w6 (some ⟨g, 0, none⟩) (l.drop (k + 1)) := hd5.keep0 k6
      refine wpAnyH_ready (rs := [8]) (by kernel_rfl) (by simp) ?_
      refine AllReadyH.cons (by simp only [List.getElem?_toArray, List.getElem?_cons_succ, List.getElem?_cons_zero] <;> rfl) (fun K hK => ?_) AllReadyH.nil
      refine step_append_prs14 rfl _ _ rfl rfl rfl hn2.out g1 hd6 z6 hlen2.out ?_
      intro v8 w8 g3 g4
      have k8 : Keep0 W5 w8 := k6.ownGrown g4 (fun k hk => (g1.lt k hk).1)
      refine hK.out _ _ ⟨k8.cell c0 (fun f => f), k8.cell c1 (fun f => f)⟩ (fun hHeld => ?_)
      clear hK K
      try simp only [Act.put, List.setIfInBounds_toArray, List.set_cons_zero, List.set_cons_succ]
      refine wpAnyH_take (i := 9) (v := ?ax6v) (by simp only [List.getElem?_toArray, List.getElem?_cons_succ, List.getElem?_cons_zero] <;> rfl) (by kernel_rfl) (by kernel_rfl) (by kernel_rfl) (by exact fun _ _ _ h => h) (Or.inl ⟨by rfl, ?ax6y⟩) hHeld ?ax6r
      case ax6y => intro w hSw; (try dsimp only at hSw); go_simp <;> rfl
      simp only [Act.put, List.setIfInBounds_toArray, List.set_cons_zero, List.set_cons_succ]
      refine wpAnyH_done (by kernel_rfl) ?_ _
      have K8 := KE.trans k8
      rw [HI2.out] at g3
      have g5 := rowP_mono g3 z5
      obtain ⟨ao8, an8, ac8, rfl⟩ := sliceE_of_own g5
      clear hHeld g1 g2 g3 g4 k6 k8 kE kD KE K6 hs5 hd5 hd6 hx5 c0 c1 u0 u1
      go_wp2
      go_ret
      exact ⟨_, rfl, g5, K8⟩
    case inr h =>
      have HD : Hid (PrsAt w (some ⟨g, (k + 1) * 2, none⟩) (l.drop (k + 1))) := by
        have h := prs_drop14 HC.out (k + 1)
        rw [Nat.zero_add] at h
        exact h
      refine wp_region_held_drew (S := (fun W => W.cell? ⟨G, 0, none⟩ = some (.string x.n) ∧ W.cell? ⟨G, 1, none⟩ = some (.string x.v))) (by kernel_rfl) ⟨u0, u1⟩ (fun hHeld => ?_)
      have kD : Keep0 w1 w1.drew := (Keep.refl _ w1).drew
      generalize w1.drew = WD at *
      refine wpAnyH_take (i := 0) (v := ?ay0v) (by simp only [List.getElem?_toArray, List.getElem?_cons_zero] <;> rfl) (by kernel_rfl) (by kernel_rfl) (by kernel_rfl) (by exact fun _ _ _ h => h) (Or.inl ⟨by rfl, ?ay0y⟩) hHeld ?ay0r
      case ay0y => intro w hSw; (try dsimp only at hSw); go_simp <;> rfl
      simp only [Act.put, List.setIfInBounds_toArray, List.set_cons_zero, List.set_cons_succ]
      refine wpAnyH_take (i := 1) (v := ?ay1v) (by simp only [List.getElem?_toArray, List.getElem?_cons_succ, List.getElem?_cons_zero] <;> rfl) (by kernel_rfl) (by kernel_rfl) (by kernel_rfl) (by exact fun _ _ _ h => h) (Or.inl ⟨by rfl, ?ay1y⟩) hHeld ?ay1r
      case ay1y => intro w hSw; (try dsimp only at hSw); go_simp <;> rfl
      simp only [Act.put, List.setIfInBounds_toArray, List.set_cons_zero, List.set_cons_succ]
      refine wpAnyH_take (i := 2) (v := ?ay2v) (by simp only [List.getElem?_toArray, List.getElem?_cons_succ, List.getElem?_cons_zero] <;> rfl) (by kernel_rfl) (by kernel_rfl) (by kernel_rfl) (by exact fun _ _ _ h => h) (Or.inl ⟨by rfl, ?ay2y⟩) hHeld ?ay2r
      case ay2y => intro w hSw; (try dsimp only at hSw); go_simp <;> rfl
      simp only [Act.put, List.setIfInBounds_toArray, List.set_cons_zero, List.set_cons_succ]
      refine wpAnyH_take (i := 3) (v := ?ay3v) (by simp only [List.getElem?_toArray, List.getElem?_cons_succ, List.getElem?_cons_zero] <;> rfl) (by kernel_rfl) (by kernel_rfl) (by kernel_rfl) (by exact fun _ _ _ h => h) (Or.inl ⟨by rfl, ?ay3y⟩) hHeld ?ay3r
      case ay3y => intro w hSw; (try dsimp only at hSw); go_simp <;> rfl
      simp only [Act.put, List.setIfInBounds_toArray, List.set_cons_zero, List.set_cons_succ]
      refine wpAnyH_take (i := 4) (v := ?ay4v) (by simp only [List.getElem?_toArray, List.getElem?_cons_succ, List.getElem?_cons_zero] <;> rfl) (by kernel_rfl) (by kernel_rfl) (by kernel_rfl) (by exact fun _ _ _ h => h) (Or.inl ⟨by rfl, ?ay4y⟩) hHeld ?ay4r
      case ay4y => intro w hSw; (try dsimp only at hSw); go_simp <;> rfl
      simp only [Act.put, List.setIfInBounds_toArray, List.set_cons_zero, List.set_cons_succ]
      refine wpAnyH_take (i := 7) (v := ?ay5v) (by simp only [List.getElem?_toArray, List.getElem?_cons_succ, List.getElem?_cons_zero] <;> rfl) (by kernel_rfl) (by kernel_rfl) (by kernel_rfl) (by exact fun _ _ _ h => h) (Or.inl ⟨by rfl, ?ay5y⟩) hHeld ?ay5r
      case ay5y => intro w hSw; (try dsimp only at hSw); go_simp <;> rfl
      simp only [Act.put, List.setIfInBounds_toArray, List.set_cons_zero, List.set_cons_succ]
      have kE : Keep0 w1 (WD.alloc (.cells #[.string x.n, .string x.v] 59)) := kD.alloc _
      have hx5 := pr_new WD 59 x
      refine wpAnyH_ready (rs := [5]) (by kernel_rfl) (by simp) ?_
      refine AllReadyH.cons (by simp only [List.getElem?_toArray, List.getElem?_cons_succ, List.getElem?_cons_zero] <;> rfl) (fun K hK => ?_) AllReadyH.nil
      go_simp
      refine hK.out _ _ ⟨kE.cell u0 (fun f => f), kE.cell u1 (fun f => f)⟩ (fun hHeld => ?_)
      clear hK K
      try simp only [Act.put, List.setIfInBounds_toArray, List.set_cons_zero, List.set_cons_succ]
      generalize (WD.alloc (.cells #[.string x.n, .string x.v] 59)) = W5 at *
      generalize WD.heap.size = g5 at *
      have KE := K1.trans kE
      have hs5 : PrsAt W5 (some ⟨g, 0, none⟩) (l.take k) := HT.out.keep0 KE
      have hd5 : PrsAt W5 (some ⟨g, (k + 1) * 2, none⟩) (l.drop (k + 1)) := HD.out.keep0 KE
      have c0 := kE.cell u0 (fun f => f)
      have c1 := kE.cell u1 (fun f => f)
      have z5 := KE.size
      refine wpAnyH_ready (rs := [6]) (by kernel_rfl) (by simp) ?_
      refine AllReadyH.cons (by simp only [List.getElem?_toArray, List.getElem?_cons_succ, List.getElem?_cons_zero] <;> rfl) (fun K hK => ?_) AllReadyH.nil
      refine step_append_full14 rfl _ _ rfl rfl hn1.out hn1.out rfl hs5 hx5 hlen1.out (fun e => by cases e) ?_
      intro v6 w6 g1 g2
      have k6 : Keep0 W5 w6 := (Keep.refl _ W5).ownGrown g2 (fun k hk => by cases hk)
      refine hK.out _ _ ⟨k6.cell c0 (fun f => f), k6.cell c1 (fun f => f)⟩ (fun hHeld => ?_)
      clear hK K
      try simp only [Act.put, List.setIfInBounds_toArray, List.set_cons_zero, List.set_cons_succ]
      have K6 := KE.trans k6
      have z6 := k6.size
      have hd6 : PrsAt w6 (some ⟨g, (k + 1) * 2, none⟩) (l.drop (k + 1)) := hd5.keep0 k6
      refine wpAnyH_ready (rs := [8]) (by kernel_rfl) (by simp) ?_
      refine AllReadyH.cons (by simp only [List.getElem?_toArray, List.getElem?_cons_succ, List.getElem?_cons_zero] <;> rfl) (fun K hK => ?_) AllReadyH.nil
      refine step_append_prs14 rfl _ _ rfl rfl rfl hn2.out g1 hd6 z6 hlen2.out ?_
      intro v8 w8 g3 g4
      have k8 : Keep0 W5 w8 := k6.ownGrown g4 (fun k hk => (g1.lt k hk).1)
      refine hK.out _ _ ⟨k8.cell c0 (fun f => f), k8.cell c1 (fun f => f)⟩ (fun hHeld => ?_)
      clear hK K
      try simp only [Act.put, List.setIfInBounds_toArray, List.set_cons_zero, List.set_cons_succ]
      refine wpAnyH_take (i := 9) (v := ?ay6v) (by simp only [List.getElem?_toArray, List.getElem?_cons_succ, List.getElem?_cons_zero] <;> rfl) (by kernel_rfl) (by kernel_rfl) (by kernel_rfl) (by exact fun _ _ _ h => h) (Or.inl ⟨by rfl, ?ay6y⟩) hHeld ?ay6r
      case ay6y => intro w hSw; (try dsimp only at hSw); go_simp <;> rfl
      simp only [Act.put, List.setIfInBounds_toArray, List.set_cons_zero, List.set_cons_succ]
      refine wpAnyH_done (by kernel_rfl) ?_ _
      have K8 := KE.trans k8
      rw [HI2.out] at g3
      have g5 := rowP_mono g3 z5
      obtain ⟨ao8, an8, ac8, rfl⟩ := sliceE_of_own g5
      clear hHeld g1 g2 g3 g4 k6 k8 kE kD KE K6 hs5 hd5 hd6 hx5 c0 c1 u0 u1
      go_wp2
      go_ret
      exact ⟨_, rfl, g5, K8⟩
  | false =>
    have hn2 : Hid (l.length - k = (l.drop k).length) := by show _ = _; rw [List.length_drop]
    have hlen2 : Hid ((l.take k ++ [x]).length + (l.drop k).length ≤ 1000000) := by
      show _ ≤ _
      rw [List.length_append, List.length_take, List.length_drop]
      show min k l.length + 1 + _ ≤ _
      omega
    have HI2 : Hid ((l.take k ++ [x]) ++ l.drop k = wIns false l x) := (HI.out k false HSp.out).symm
    clear HI HSp
    go_wp2_with fail
    case inl h =>
      have HD : Hid (PrsAt w (some ⟨g, 0, none⟩) (l.drop k)) := by
        show PrsAt _ _ _
        rw [List.drop_eq_nil_of_le (by omega)]
        exact prs_nil _ _
      refine wp_region_held_drew (S := (fun W => W.cell? ⟨G, 0, none⟩ = some (.string x.n) ∧ W.cell? ⟨G, 1, none⟩ = some (.string x.v))) (by kernel_rfl) ⟨u0, u1⟩ (fun hHeld => ?_)
      have kD : Keep0 w1 w1.drew := (Keep.refl _ w1).drew
      generalize w1.drew = WD at *
      refine wpAnyH_take (i := 0) (v := ?bx0v) (by simp only [List.getElem?_toArray, List.getElem?_cons_zero] <;> rfl) (by kernel_rfl) (by kernel_rfl) (by kernel_rfl) (by exact fun _ _ _ h => h) (Or.inl ⟨by rfl, ?bx0y⟩) hHeld ?bx0r
      case bx0y => intro w hSw; (try dsimp only at hSw); go_simp <;> rfl
      simp only [Act.put, List.setIfInBounds_toArray, List.set_cons_zero, List.set_cons_succ]
      refine wpAnyH_take (i := 1) (v := ?bx1v) (by simp only [List.getElem?_toArray, List.getElem?_cons_succ, List.getElem?_cons_zero] <;> rfl) (by kernel_rfl) (by kernel_rfl) (by kernel_rfl) (by exact fun _ _ _ h => h) (Or.inl ⟨by rfl, ?bx1y⟩) hHeld ?bx1r
      case bx1y => intro w hSw; (try dsimp only at hSw); go_simp <;> rfl
      simp only [Act.put, List.setIfInBounds_toArray, List.set_cons_zero, List.set_cons_succ]
      refine wpAnyH_take (i := 2) (v := ?bx2v) (by simp only [List.getElem?_toArray, List.getElem?_cons_succ, List.getElem?_cons_zero] <;> rfl) (by kernel_rfl) (by kernel_rfl) (by kernel_rfl) (by exact fun _ _ _ h => h) (Or.inl ⟨by rfl, ?bx2y⟩) hHeld ?bx2r
      case bx2y => intro w hSw; (try dsimp only at hSw); go_simp <;> rfl
      simp only [Act.put, List.setIfInBounds_toArray, List.set_cons_zero, List.set_cons_succ]
      refine wpAnyH_take (i := 3) (v := ?bx3v) (by simp only [List.getElem?_toArray, List.getElem?_cons_succ, List.getElem?_cons_zero] <;> rfl) (by kernel_rfl) (by kernel_rfl) (by kernel_rfl) (by exact fun _ _ _ h => h) (Or.inl ⟨by rfl, ?bx3y⟩) hHeld ?bx3r
      case bx3y => intro w hSw; (try dsimp only at hSw); go_simp <;> rfl
      simp only [Act.put, List.setIfInBounds_toArray, List.set_cons_zero, List.set_cons_succ]
      refine wpAnyH_take (i := 4) (v := ?bx4v) (by simp only [List.getElem?_toArray, List.getElem?_cons_succ, List.getElem?_cons_zero] <;> rfl) (by kernel_rfl) (by kernel_rfl) (by kernel_rfl) (by exact fun _ _ _ h => h) (Or.inl ⟨by rfl, ?bx4y⟩) hHeld ?bx4r
      case bx4y => intro w hSw; (try dsimp only at hSw); go_simp <;> rfl
      simp only [Act.put, List.setIfInBounds_toArray, List.set_cons_zero, List.set_cons_succ]
      refine wpAnyH_take (i := 7) (v := ?bx5v) (by simp only [List.getElem?_toArray, List.getElem?_cons_succ, List.getElem?_cons_zero] <;> rfl) (by kernel_rfl) (by kernel_rfl) (by kernel_rfl) (by exact fun _ _ _ h => h) (Or.inl ⟨by rfl, ?bx5y⟩) hHeld ?bx5r
      case bx5y => intro w hSw; (try dsimp only at hSw); go_simp <;> rfl
      simp only [Act.put, List.setIfInBounds_toArray, List.set_cons_zero, List.set_cons_succ]
      have kE : Keep0 w1 (WD.alloc (.cells #[.string x.n, .string x.v] 59)) := kD.alloc _
      have hx5 := pr_new WD 59 x
      refine wpAnyH_ready (rs := [5]) (by kernel_rfl) (by simp) ?_
      refine AllReadyH.cons (by simp only [List.getElem?_toArray, List.getElem?_cons_succ, List.getElem?_cons_zero] <;> rfl) (fun K hK => ?_) AllReadyH.nil
      go_simp
      refine hK.out _ _ ⟨kE.cell u0 (fun f => f), kE.cell u1 (fun f => f)⟩ (fun hHeld => ?_)
      clear hK K
      try simp only [Act.put, List.setIfInBounds_toArray, List.set_cons_zero, List.set_cons_succ]
      generalize (WD.alloc (.cells #[.string x.n, .string x.v] 59)) = W5 at *
      generalize WD.heap.size = g5 at *
      have KE := K1.trans kE
      have hs5 : PrsAt W5 (some ⟨g, 0, none⟩) (l.take k) := HT.out.keep0 KE
      have hd5 : PrsAt W5 (some ⟨g, 0, none⟩) (l.drop k) := HD.out.keep0 KE
      have c0 := kE.cell u0 (fun f => f)
      have c1 := kE.cell u1 (fun f => f)
      have z5 := KE.size
      refine wpAnyH_ready (rs := [6]) (by kernel_rfl) (by simp) ?_
      refine AllReadyH.cons (by simp only [List.getElem?_toArray, List.getElem?_cons_succ, List.getElem?_cons_zero] <;> rfl) (fun K hK => ?_) AllReadyH.nil
      refine step_append_full14 rfl _ _ rfl rfl hn1.out hn1.out rfl hs5 hx5 hlen1.out (fun e => by cases e) ?_
      intro v6 w6 g1 g2
      have k6 : Keep0 W5 w6 := (Keep.refl _ W5).ownGrown g2 (fun k hk => by cases hk)
      refine hK.out _ _ ⟨k6.cell c0 (fun f => f), k6.cell c1 (fun f => f)⟩ (fun hHeld => ?_)
      clear hK K
      try simp only [Act.put, List.setIfInBounds_toArray, List.set_cons_zero, List.set_cons_succ]
      have K6 := KE.trans k6
      have z6 := k6.size
      have hd6 : PrsAt w6 (some ⟨g, 0, none⟩) (l.drop k) := hd5.keep0 k6
      refine wpAnyH_ready (rs := [8]) (by kernel_rfl) (by simp) ?_
      refine AllReadyH.cons (by simp only [List.getElem?_toArray, List.getElem?_cons_succ, List.getElem?_cons_zero] <;> rfl) (fun K hK => ?_) AllReadyH.nil
      refine step_append_prs14 rfl _ _ rfl rfl rfl hn2.out g1 hd6 z6 hlen2.out ?_
      intro v8 w8 g3 g4
      have k8 : Keep0 W5 w8 := k6.ownGrown g4 (fun k hk => (g1.lt k hk).1)
      refine hK.out _ _ ⟨k8.cell c0 (fun f => f), k8.cell c1 (fun f => f)⟩ (fun hHeld => ?_)
      clear hK K
      try simp only [Act.put, List.setIfInBounds_toArray, List.set_cons_zero, List.set_cons_succ]
      refine wpAnyH_take (i := 9) (v := ?bx6v) (by simp only [List.getElem?_toArray, List.getElem?_cons_succ, List.getElem?_cons_zero] <;> rfl) (by kernel_rfl) (by kernel_rfl) (by kernel_rfl) (by exact fun _ _ _ h => h) (Or.inl ⟨by rfl, ?bx6y⟩) hHeld ?bx6r
      case bx6y => intro w hSw; (try dsimp only at hSw); go_simp <;> rfl
      simp only [Act.put, List.setIfInBounds_toArray, List.set_cons_zero, List.set_cons_succ]
      refine wpAnyH_done (by kernel_rfl) ?_ _
      have K8 := KE.trans k8
      rw [HI2.out] at g3
      have g5 := rowP_mono g3 z5
      obtain ⟨ao8, an8, ac8, rfl⟩ := sliceE_of_own g5
      clear hHeld g1 g2 g3 g4 k6 k8 kE kD KE K6 hs5 hd5 hd6 hx5 c0 c1 u0 u1
      go_wp2
      go_ret
      exact ⟨_, rfl, g5, K8⟩
    case inr h =>
      have HD : Hid (PrsAt w (some ⟨g, k * 2, none⟩) (l.drop k)) := by
        have h := prs_drop14 HC.out k
        rw [Nat.zero_add] at h
        exact h
      refine wp_region_held_drew (S := (fun W => W.cell? ⟨G, 0, none⟩ = some (.string x.n) ∧ W.cell? ⟨G, 1, none⟩ = some (.string x.v))) (by kernel_rfl) ⟨u0, u1⟩ (fun hHeld => ?_)
      have kD : Keep0 w1 w1.drew := (Keep.refl _ w1).drew
      generalize w1.drew = WD at *
      refine wpAnyH_take (i := 0) (v := ?by0v) (by simp only [List.getElem?_toArray, List.getElem?_cons_zero] <;> rfl) (by kernel_rfl) (by kernel_rfl) (by kernel_rfl) (by exact fun _ _ _ h => h) (Or.inl ⟨by rfl, ?by0y⟩) hHeld ?by0r
      case by0y => intro w hSw; (try dsimp only at hSw); go_simp <;> rfl
      simp only [Act.put, List.setIfInBounds_toArray, List.set_cons_zero, List.set_cons_succ]
      refine wpAnyH_take (i := 1) (v := ?by1v) (by simp only [List.getElem?_toArray, List.getElem?_cons_succ, List.getElem?_cons_zero] <;> rfl) (by kernel_rfl) (by kernel_rfl) (by kernel_rfl) (by exact fun _ _ _ h => h) (Or.inl ⟨by rfl, ?by1y⟩) hHeld ?by1r
      case by1y => intro w hSw; (try dsimp only at hSw); go_simp <;> rfl
      simp only [Act.put, List.setIfInBounds_toArray, List.set_cons_zero, List.set_cons_succ]
      refine wpAnyH_take (i := 2) (v := ?by2v) (by simp only [List.getElem?_toArray, List.getElem?_cons_succ, List.getElem?_cons_zero] <;> rfl) (by kernel_rfl) (by kernel_rfl) (by kernel_rfl) (by exact fun _ _ _ h => h) (Or.inl ⟨by rfl, ?by2y⟩) hHeld ?by2r
      case by2y => intro w hSw; (try dsimp only at hSw); go_simp <;> rfl
      simp only [Act.put, List.setIfInBounds_toArray, List.set_cons_zero, List.set_cons_succ]
      refine wpAnyH_take (i := 3) (v := ?by3v) (by simp only [List.getElem?_toArray, List.getElem?_cons_succ, List.getElem?_cons_zero] <;> rfl) (by kernel_rfl) (by kernel_rfl) (by kernel_rfl) (by exact fun _ _ _ h => h) (Or.inl ⟨by rfl, ?by3y⟩) hHeld ?by3r
      case by3y => intro w hSw; (try dsimp only at hSw); go_simp <;> rfl
      simp only [Act.put, List.setIfInBounds_toArray, List.set_cons_zero, List.set_cons_succ]
      refine wpAnyH_take (i := 4) (v := ?by4v) (by simp only [List.getElem?_toArray, List.getElem?_cons_succ, List.getElem?_cons_zero] <;> rfl) (by kernel_rfl) (by kernel_rfl) (by kernel_rfl) (by exact fun _ _ _ h => h) (Or.inl ⟨by rfl, ?by4y⟩) hHeld ?by4r
      case by4y => intro w hSw; (try dsimp only at hSw); go_simp <;> rfl
      simp only [Act.put, List.setIfInBounds_toArray, List.set_cons_zero, List.set_cons_succ]
      refine wpAnyH_take (i := 7) (v := ?by5v) (by simp only [List.getElem?_toArray, List.getElem?_cons_succ, List.getElem?_cons_zero] <;> rfl) (by kernel_rfl) (by kernel_rfl) (by kernel_rfl) (by exact fun _ _ _ h => h) (Or.inl ⟨by rfl, ?by5y⟩) hHeld ?by5r
      case by5y => intro w hSw; (try dsimp only at hSw); go_simp <;> rfl
      simp only [Act.put, List.setIfInBounds_toArray, List.set_cons_zero, List.set_cons_succ]
      have kE : Keep0 w1 (WD.alloc (.cells #[.string x.n, .string x.v] 59)) := kD.alloc _
      have hx5 := pr_new WD 59 x
      refine wpAnyH_ready (rs := [5]) (by kernel_rfl) (by simp) ?_
      refine AllReadyH.cons (by simp only [List.getElem?_toArray, List.getElem?_cons_succ, List.getElem?_cons_zero] <;> rfl) (fun K hK => ?_) AllReadyH.nil
      go_simp
      refine hK.out _ _ ⟨kE.cell u0 (fun f => f), kE.cell u1 (fun f => f)⟩ (fun hHeld => ?_)
      clear hK K
      try simp only [Act.put, List.setIfInBounds_toArray, List.set_cons_zero, List.set_cons_succ]
      generalize (WD.alloc (.cells #[.string x.n, .string x.v] 59)) = W5 at *
      generalize WD.heap.size = g5 at *
      have KE := K1.trans kE
      have hs5 : PrsAt W5 (some ⟨g, 0, none⟩) (l.take k) := HT.out.keep0 KE
      have hd5 : PrsAt W5 (some ⟨g, k * 2, none⟩) (l.drop k) := HD.out.keep0 KE
      have c0 := kE.cell u0 (fun f => f)
      have c1 := kE.cell u1 (fun f => f)
      have z5 := KE.size
      refine wpAnyH_ready (rs := [6]) (by kernel_rfl) (by simp) ?_
      refine AllReadyH.cons (by simp only [List.getElem?_toArray, List.getElem?_cons_succ, List.getElem?_cons_zero] <;> rfl) (fun K hK => ?_) AllReadyH.nil
      refine step_append_full14 rfl _ _ rfl rfl hn1.out hn1.out rfl hs5 hx5 hlen1.out (fun e => by cases e) ?_
      intro v6 w6 g1 g2
      have k6 : Keep0 W5 w6 := (Keep.refl _ W5).ownGrown g2 (fun k hk => by cases hk)
      refine hK.out _ _ ⟨k6.cell c0 (fun f => f), k6.cell c1 (fun f => f)⟩ (fun hHeld => ?_)
      clear hK K
      try simp only [Act.put, List.setIfInBounds_toArray, List.set_cons_zero, List.set_cons_succ]
      have K6 := KE.trans k6
      have z6 := k6.size
      have hd6 : PrsAt w6 (some ⟨g, k * 2, none⟩) (l.drop k) := hd5.keep0 k6
      refine wpAnyH_ready (rs := [8]) (by kernel_rfl) (by simp) ?_
      refine AllReadyH.cons (by simp only [List.getElem?_toArray, List.getElem?_cons_succ, List.getElem?_cons_zero] <;> rfl) (fun K hK => ?_) AllReadyH.nil
      refine step_append_prs14 rfl _ _ rfl rfl rfl hn2.out g1 hd6 z6 hlen2.out ?_
      intro v8 w8 g3 g4
      have k8 : Keep0 W5 w8 := k6.ownGrown g4 (fun k hk => (g1.lt k hk).1)
      refine hK.out _ _ ⟨k8.cell c0 (fun f => f), k8.cell c1 (fun f => f)⟩ (fun hHeld => ?_)
      clear hK K
      try simp only [Act.put, List.setIfInBounds_toArray, List.set_cons_zero, List.set_cons_succ]
      refine wpAnyH_take (i := 9) (v := ?by6v) (by simp only [List.getElem?_toArray, List.getElem?_cons_succ, List.getElem?_cons_zero] <;> rfl) (by kernel_rfl) (by kernel_rfl) (by kernel_rfl) (by exact fun _ _ _ h => h) (Or.inl ⟨by rfl, ?by6y⟩) hHeld ?by6r
      case by6y => intro w hSw; (try dsimp only at hSw); go_simp <;> rfl
      simp only [Act.put, List.setIfInBounds_toArray, List.set_cons_zero, List.set_cons_succ]
      refine wpAnyH_done (by kernel_rfl) ?_ _
      have K8 := KE.trans k8
      rw [HI2.out] at g3
      have g5 := rowP_mono g3 z5
      obtain ⟨ao8, an8, ac8, rfl⟩ := sliceE_of_own g5
      clear hHeld g1 g2 g3 g4 k6 k8 kE kD KE K6 hs5 hd5 hd6 hx5 c0 c1 u0 u1
      go_wp2
      go_ret
      exact ⟨_, rfl, g5, K8⟩
end Go.Proofs.Ytmcinehbhgaiaaa
