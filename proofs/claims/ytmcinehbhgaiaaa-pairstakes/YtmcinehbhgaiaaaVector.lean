/-
  Vectors, on lists of entries: which are right, what they know, which descends from which, what they know together, and one event more. No program.
  Conditions: none beyond what each lemma states.
-/
import Derived.Test.YtmcinehbhgaiaaaL6
namespace Go.Proofs.Ytmcinehbhgaiaaa
open Go.RowKit

/-! ### the order of texts -/
def bl (a b : ByteArray) : Bool := lBelow a.data.toList b.data.toList
theorem lBelow_irr : ∀ l : List UInt8, lBelow l l = false
  | [] => rfl
  | a :: l => by rw [lBelow, if_pos rfl]; exact lBelow_irr l
theorem lBelow_trans : ∀ a b c : List UInt8, lBelow a b = true → lBelow b c = true → lBelow a c = true
  | [], [], _, h, _ => by cases h
  | [], _ :: _, [], _, h => by cases h
  | [], _ :: _, _ :: _, _, _ => rfl
  | _ :: _, [], _, h, _ => by cases h
  | _ :: _, _ :: _, [], _, h => by cases h
  | x :: a, y :: b, z :: c, h1, h2 => by
    rw [lBelow] at h1 h2 ⊢
    by_cases e1 : x = y
    · subst e1
      rw [if_pos rfl] at h1
      by_cases e2 : x = z
      · subst e2
        rw [if_pos rfl] at h2 ⊢
        exact lBelow_trans a b c h1 h2
      · rw [if_neg e2] at h2 ⊢
        exact h2
    · rw [if_neg e1] at h1
      have h1 : x.toNat < y.toNat := of_decide_eq_true h1
      by_cases e2 : y = z
      · subst e2
        rw [if_neg e1]
        exact decide_eq_true h1
      · rw [if_neg e2] at h2
        have h2 : y.toNat < z.toNat := of_decide_eq_true h2
        have e3 : x ≠ z := fun e => by rw [e] at h1; omega
        rw [if_neg e3]
        exact decide_eq_true (by omega)
theorem bl_irr (a : ByteArray) : bl a a = false := lBelow_irr _
theorem bl_trans {a b c : ByteArray} (h1 : bl a b = true) (h2 : bl b c = true) : bl a c = true := lBelow_trans _ _ _ h1 h2
theorem bl_tri {a b : ByteArray} (h : bl a b = false) : bl b a = true ∨ a = b := by
  have := below_not a.data.toList b.data.toList
  unfold bl at h ⊢
  rw [h] at this
  cases hb : lBelow b.data.toList a.data.toList with
  | true => exact Or.inl rfl
  | false =>
    rw [hb] at this
    right
    have e : b.data.toList = a.data.toList := by simpa using this
    exact ByteArray.ext (Array.toList_inj.1 e.symm)
theorem bl_ne {a b : ByteArray} (h : bl a b = true) : a ≠ b := fun e => by rw [e, bl_irr] at h; cases h
theorem bl_asym {a b : ByteArray} (h : bl a b = true) : bl b a = false := by
  cases hb : bl b a with
  | false => rfl
  | true => exact absurd (bl_trans h hb) (by rw [bl_irr]; decide)

/-! ### vectors -/
structure En where
  a : ByteArray
  n : Nat
theorem En.eq {x y : En} (h1 : x.a = y.a) (h2 : x.n = y.n) : x = y := by cases x; cases y; cases h1; cases h2; rfl
/-- An entry that may stand in a vector. -/
def En.ok (x : En) : Prop := 0 < x.a.size ∧ x.a.size ≤ 32 ∧ x.n ≠ 0
/-- Of whatever length: its entries are right, and rise. -/
def Good (v : List En) : Prop := (∀ x ∈ v, x.ok) ∧ v.Pairwise (fun x y => bl x.a y.a = true)
/-- Is an actor not above the one ahead? -/
def falls : Option ByteArray → ByteArray → Bool
  | none, _ => false
  | some q, a => !bl q a
theorem falls_none (a : ByteArray) : falls none a = false := rfl
theorem falls_some (q a : ByteArray) : falls (some q) a = !bl q a := rfl
def cOne (p : Option ByteArray) (x : En) : Int := if 32 < x.a.size then 3 else if x.a.size = 0 then 14 else if falls p x.a = true then 6 else if x.n = 0 then 7 else 0
def cGo : Option ByteArray → List En → Int
  | _, [] => 0
  | p, x :: l => if cOne p x = 0 then cGo (some x.a) l else cOne p x
def vCheck (v : List En) : Int := if 64 < v.length then 3 else cGo none v
theorem cOne_zero {p : Option ByteArray} {x : En} : cOne p x = 0 ↔ x.ok ∧ ∀ q, p = some q → bl q x.a = true := by
  unfold cOne En.ok
  constructor
  · intro h
    by_cases h1 : 32 < x.a.size
    · rw [if_pos h1] at h; exact absurd h (by decide)
    rw [if_neg h1] at h
    by_cases h2 : x.a.size = 0
    · rw [if_pos h2] at h; exact absurd h (by decide)
    rw [if_neg h2] at h
    cases p with
    | none =>
      rw [falls_none, if_neg (by decide)] at h
      by_cases h4 : x.n = 0
      · rw [if_pos h4] at h; exact absurd h (by decide)
      · exact ⟨⟨by omega, by omega, h4⟩, fun q e => by cases e⟩
    | some q =>
      cases hb : bl q x.a with
      | false => rw [falls_some, hb, if_pos (by decide)] at h; exact absurd h (by decide)
      | true =>
        rw [falls_some, hb, if_neg (by decide)] at h
        by_cases h4 : x.n = 0
        · rw [if_pos h4] at h; exact absurd h (by decide)
        · exact ⟨⟨by omega, by omega, h4⟩, fun q' e => by cases e; exact hb⟩
  · rintro ⟨⟨h1, h2, h3⟩, h4⟩
    rw [if_neg (by omega), if_neg (by omega)]
    cases p with
    | none => rw [falls_none, if_neg (by decide), if_neg h3]
    | some q => rw [falls_some, h4 q rfl, if_neg (by decide), if_neg h3]
theorem cGo_zero : ∀ (v : List En) (p : Option ByteArray), cGo p v = 0 ↔ Good v ∧ ∀ q, p = some q → ∀ x ∈ v, bl q x.a = true
  | [], p => ⟨fun _ => ⟨⟨(fun _ h => by cases h), List.Pairwise.nil⟩, (fun _ _ _ h => by cases h)⟩, fun _ => rfl⟩
  | x :: l, p => by
    rw [cGo]
    constructor
    · intro h
      by_cases h0 : cOne p x = 0
      · rw [if_pos h0] at h
        obtain ⟨⟨g1, g2⟩, g3⟩ := (cGo_zero l (some x.a)).1 h
        obtain ⟨o1, o2⟩ := cOne_zero.1 h0
        refine ⟨⟨?_, List.pairwise_cons.2 ⟨fun y hy => g3 x.a rfl y hy, g2⟩⟩, fun q e y hy => ?_⟩
        · intro y hy
          rcases List.mem_cons.1 hy with rfl | hy
          · exact o1
          · exact g1 y hy
        · rcases List.mem_cons.1 hy with rfl | hy
          · exact o2 q e
          · exact bl_trans (o2 q e) (g3 x.a rfl y hy)
      · rw [if_neg h0] at h
        exact absurd h h0
    · rintro ⟨⟨g1, g2⟩, g3⟩
      obtain ⟨p1, p2⟩ := List.pairwise_cons.1 g2
      have h0 : cOne p x = 0 := cOne_zero.2 ⟨g1 x List.mem_cons_self, fun q e => g3 q e x List.mem_cons_self⟩
      rw [if_pos h0]
      exact (cGo_zero l (some x.a)).2 ⟨⟨fun y hy => g1 y (List.mem_cons_of_mem _ hy), p2⟩, fun q e y hy => by cases e; exact p1 y hy⟩
theorem check_zero (v : List En) : vCheck v = 0 ↔ v.length ≤ 64 ∧ Good v := by
  unfold vCheck
  by_cases h : 64 < v.length
  · rw [if_pos h]
    exact ⟨fun e => absurd e (by decide), fun e => absurd e.1 (by omega)⟩
  · rw [if_neg h, cGo_zero]
    exact ⟨fun e => ⟨by omega, e.1⟩, fun e => ⟨e.2, fun q h => by cases h⟩⟩
theorem Good.nil : Good [] := ⟨(fun _ h => by cases h), List.Pairwise.nil⟩
theorem Good.tail {x : En} {v : List En} (h : Good (x :: v)) : Good v := ⟨fun y hy => h.1 y (List.mem_cons_of_mem _ hy), (List.pairwise_cons.1 h.2).2⟩
theorem Good.head {x : En} {v : List En} (h : Good (x :: v)) : x.ok := h.1 x List.mem_cons_self
theorem Good.above {x : En} {v : List En} (h : Good (x :: v)) : ∀ y ∈ v, bl x.a y.a = true := (List.pairwise_cons.1 h.2).1
theorem Good.cons {x : En} {v : List En} (h1 : x.ok) (h2 : Good v) (h3 : ∀ y ∈ v, bl x.a y.a = true) : Good (x :: v) :=
  ⟨(fun y hy => (List.mem_cons.1 hy).elim (fun e => e ▸ h1) (fun h => h2.1 y h)), List.pairwise_cons.2 ⟨h3, h2.2⟩⟩

/-! ### what is known -/
def vCount : List En → ByteArray → Nat
  | [], _ => 0
  | x :: l, a => if x.a = a then x.n else vCount l a
theorem count_nil (z : ByteArray) : vCount [] z = 0 := rfl
theorem count_cons (x : En) (l : List En) (z : ByteArray) : vCount (x :: l) z = if x.a = z then x.n else vCount l z := rfl
theorem count_none : ∀ {v : List En} {a : ByteArray}, (∀ x ∈ v, x.a ≠ a) → vCount v a = 0
  | [], _, _ => rfl
  | x :: l, a, h => by rw [vCount, if_neg (h x List.mem_cons_self)]; exact count_none (fun y hy => h y (List.mem_cons_of_mem _ hy))
theorem count_below {v : List En} {a : ByteArray} (h : ∀ x ∈ v, bl a x.a = true) : vCount v a = 0 := count_none (fun x hx e => absurd (h x hx) (by rw [e, bl_irr]; decide))
theorem count_mem : ∀ {v : List En}, Good v → ∀ x ∈ v, vCount v x.a = x.n
  | y :: l, h, x, hx => by
    rw [vCount]
    rcases List.mem_cons.1 hx with rfl | hx
    · rw [if_pos rfl]
    · rw [if_neg (bl_ne (h.above x hx))]
      exact count_mem h.tail x hx
theorem count_pos : ∀ {v : List En} {a : ByteArray}, vCount v a ≠ 0 → ∃ x ∈ v, x.a = a ∧ x.n = vCount v a
  | [], _, h => absurd rfl h
  | x :: l, a, h => by
    rw [vCount] at h ⊢
    by_cases e : x.a = a
    · rw [if_pos e]
      exact ⟨x, List.mem_cons_self, e, rfl⟩
    · rw [if_neg e] at h ⊢
      obtain ⟨y, h1, h2, h3⟩ := count_pos h
      exact ⟨y, List.mem_cons_of_mem _ h1, h2, h3⟩
/-- Two vectors that know the same are the same. -/
theorem vec_ext : ∀ {a b : List En}, Good a → Good b → (∀ z, vCount a z = vCount b z) → a = b
  | [], [], _, _, _ => rfl
  | [], y :: m, _, hb, h => by
    have := h y.a
    rw [count_nil, count_cons, if_pos rfl] at this
    exact absurd this.symm hb.head.2.2
  | x :: l, [], ha, _, h => by
    have := h x.a
    rw [count_nil, count_cons, if_pos rfl] at this
    exact absurd this ha.head.2.2
  | x :: l, y :: m, ha, hb, h => by
    have hx := h x.a
    have hy := h y.a
    rw [count_cons x l, if_pos rfl] at hx
    rw [count_cons y m, if_pos rfl] at hy
    have e : x.a = y.a := by
      cases hxy : bl x.a y.a with
      | true =>
        rw [count_below (v := y :: m) (fun z hz => by
          rcases List.mem_cons.1 hz with rfl | hz
          · exact hxy
          · exact bl_trans hxy (hb.above z hz))] at hx
        exact absurd hx ha.head.2.2
      | false =>
        rcases bl_tri hxy with hyx | e
        · rw [count_below (v := x :: l) (fun z hz => by
            rcases List.mem_cons.1 hz with rfl | hz
            · exact hyx
            · exact bl_trans hyx (ha.above z hz))] at hy
          exact absurd hy.symm hb.head.2.2
        · exact e
    have en : x.n = y.n := by rw [hx, count_cons, if_pos e.symm]
    have exy : x = y := En.eq e en
    subst exy
    congr 1
    refine vec_ext ha.tail hb.tail (fun z => ?_)
    by_cases hz : x.a = z
    · subst hz
      rw [count_below ha.above, count_below hb.above]
    · have := h z
      rwa [count_cons, count_cons, if_neg hz, if_neg hz] at this
def vAbove (a b : List En) : Bool := b.all (fun x => decide (x.n ≤ vCount a x.a))
theorem above_iff {a b : List En} (hb : Good b) : vAbove a b = true ↔ ∀ z, vCount b z ≤ vCount a z := by
  unfold vAbove
  rw [List.all_eq_true]
  constructor
  · intro h z
    by_cases h0 : vCount b z = 0
    · omega
    · obtain ⟨x, hx, hxa, hxn⟩ := count_pos h0
      have := of_decide_eq_true (h x hx)
      rw [hxa] at this
      omega
  · intro h x hx
    have := h x.a
    rw [count_mem hb x hx] at this
    exact decide_eq_true this

/-! ### an entry more -/
def vPut : List En → En → List En
  | [], x => [x]
  | y :: l, x => if bl y.a x.a = true then y :: vPut l x else if y.a = x.a then (if y.n < x.n then x :: l else y :: l) else x :: y :: l
theorem put_mem : ∀ {v : List En} {x y : En}, y ∈ vPut v x → y = x ∨ y ∈ v
  | [], x, y, h => by rw [vPut] at h; exact Or.inl (List.mem_singleton.1 h)
  | z :: l, x, y, h => by
    rw [vPut] at h
    split at h
    · rcases List.mem_cons.1 h with rfl | h
      · exact Or.inr List.mem_cons_self
      · rcases put_mem h with e | h
        · exact Or.inl e
        · exact Or.inr (List.mem_cons_of_mem _ h)
    · split at h
      · split at h
        · rcases List.mem_cons.1 h with rfl | h
          · exact Or.inl rfl
          · exact Or.inr (List.mem_cons_of_mem _ h)
        · exact Or.inr h
      · rcases List.mem_cons.1 h with rfl | h
        · exact Or.inl rfl
        · exact Or.inr h
theorem put_good : ∀ {v : List En} {x : En}, Good v → x.ok → Good (vPut v x)
  | [], x, _, hx => Good.cons hx Good.nil (fun _ h => by cases h)
  | y :: l, x, h, hx => by
    rw [vPut]
    by_cases h1 : bl y.a x.a = true
    · rw [if_pos h1]
      refine Good.cons h.head (put_good h.tail hx) (fun z hz => ?_)
      rcases put_mem hz with rfl | hz
      · exact h1
      · exact h.above z hz
    · rw [if_neg h1]
      by_cases h2 : y.a = x.a
      · rw [if_pos h2]
        by_cases h3 : y.n < x.n
        · rw [if_pos h3]
          exact Good.cons hx h.tail (fun z hz => by rw [← h2]; exact h.above z hz)
        · rw [if_neg h3]
          exact h
      · rw [if_neg h2]
        have h1' : bl y.a x.a = false := by simpa using h1
        have hxy : bl x.a y.a = true := by
          rcases bl_tri h1' with h | h
          · exact h
          · exact absurd h h2
        refine Good.cons hx h (fun z hz => ?_)
        rcases List.mem_cons.1 hz with rfl | hz
        · exact hxy
        · exact bl_trans hxy (h.above z hz)
theorem put_count : ∀ {v : List En} {x : En}, Good v → ∀ z, vCount (vPut v x) z = if x.a = z then max (vCount v z) x.n else vCount v z
  | [], x, _, z => by
    rw [vPut, count_cons, count_nil]
    by_cases e : x.a = z
    · rw [if_pos e, if_pos e]; omega
    · rw [if_neg e, if_neg e]
  | y :: l, x, h, z => by
    rw [vPut]
    by_cases h1 : bl y.a x.a = true
    · rw [if_pos h1, count_cons, count_cons, put_count h.tail z]
      by_cases e : y.a = z
      · rw [if_pos e, if_pos e, if_neg (fun e' => bl_ne h1 (e.trans e'.symm))]
      · rw [if_neg e, if_neg e]
    · rw [if_neg h1]
      by_cases h2 : y.a = x.a
      · rw [if_pos h2]
        by_cases h3 : y.n < x.n
        · rw [if_pos h3, count_cons, count_cons]
          by_cases e : x.a = z
          · rw [if_pos e, if_pos e, if_pos (h2.trans e)]; omega
          · rw [if_neg e, if_neg e, if_neg (fun e' => e (h2.symm.trans e'))]
        · rw [if_neg h3, count_cons]
          by_cases e : x.a = z
          · rw [if_pos e, if_pos (h2.trans e)]; omega
          · rw [if_neg e]
      · rw [if_neg h2]
        have h1' : bl y.a x.a = false := by simpa using h1
        have hxy : bl x.a y.a = true := by
          rcases bl_tri h1' with h | h
          · exact h
          · exact absurd h h2
        rw [count_cons x]
        by_cases e : x.a = z
        · subst e
          rw [if_pos rfl, if_pos rfl, count_below (v := y :: l) (fun w hw => by
            rcases List.mem_cons.1 hw with rfl | hw
            · exact hxy
            · exact bl_trans hxy (h.above w hw))]
          omega
        · rw [if_neg e, if_neg e]
theorem put_len : ∀ (v : List En) (x : En), (vPut v x).length ≤ v.length + 1
  | [], _ => Nat.le_refl _
  | y :: l, x => by
    have := put_len l x
    rw [vPut]
    split
    · rw [List.length_cons, List.length_cons]; omega
    · split
      · split <;> (simp only [List.length_cons]; omega)
      · rw [List.length_cons, List.length_cons]
        exact Nat.le_refl _

/-! ### together -/
def vPuts (o l : List En) : List En := l.foldl vPut o
theorem puts_cons (o : List En) (x : En) (l : List En) : vPuts o (x :: l) = vPuts (vPut o x) l := rfl
theorem puts_app (o l r : List En) : vPuts o (l ++ r) = vPuts (vPuts o l) r := List.foldl_append
theorem puts_good : ∀ {l o : List En}, Good o → (∀ x ∈ l, x.ok) → Good (vPuts o l)
  | [], _, h, _ => h
  | x :: l, o, h, hl => by
    rw [puts_cons]
    exact puts_good (put_good h (hl x List.mem_cons_self)) (fun y hy => hl y (List.mem_cons_of_mem _ hy))
theorem puts_count : ∀ {l o : List En}, Good o → Good l → ∀ z, vCount (vPuts o l) z = max (vCount o z) (vCount l z)
  | [], o, _, _, z => by show vCount o z = max (vCount o z) 0; omega
  | x :: l, o, h, hl, z => by
    rw [puts_cons, puts_count (put_good h hl.head) hl.tail z, put_count h z, count_cons]
    by_cases e : x.a = z
    · subst e
      rw [if_pos rfl, if_pos rfl, count_below hl.above]
      omega
    · rw [if_neg e, if_neg e]
theorem puts_len : ∀ (l o : List En), (vPuts o l).length ≤ o.length + l.length
  | [], _ => Nat.le_refl _
  | x :: l, o => by
    have h1 := puts_len l (vPut o x)
    have h2 := put_len o x
    rw [puts_cons, List.length_cons]
    omega
def vAll (o : List En) (l : List (List En)) : List En := l.foldl vPuts o
theorem all_cons (o v : List En) (l : List (List En)) : vAll o (v :: l) = vAll (vPuts o v) l := rfl
theorem all_snoc (o v : List En) (l : List (List En)) : vAll o (l ++ [v]) = vPuts (vAll o l) v := by unfold vAll; rw [List.foldl_append]; rfl
theorem all_good : ∀ {l : List (List En)} {o : List En}, Good o → (∀ v ∈ l, Good v) → Good (vAll o l)
  | [], _, h, _ => h
  | v :: l, o, h, hl => by
    rw [all_cons]
    exact all_good (puts_good h (hl v List.mem_cons_self).1) (fun y hy => hl y (List.mem_cons_of_mem _ hy))
/-- The most that one of them knows. -/
def most : List (List En) → ByteArray → Nat
  | [], _ => 0
  | v :: l, z => max (vCount v z) (most l z)
theorem all_count : ∀ {l : List (List En)} {o : List En}, Good o → (∀ v ∈ l, Good v) → ∀ z, vCount (vAll o l) z = max (vCount o z) (most l z)
  | [], o, _, _, z => by show vCount o z = max (vCount o z) 0; omega
  | v :: l, o, h, hl, z => by
    have hv := hl v List.mem_cons_self
    rw [all_cons, all_count (puts_good h hv.1) (fun y hy => hl y (List.mem_cons_of_mem _ hy)) z, puts_count h hv z, most]
    omega
/-- Are all of them right? -/
def rights (l : List (List En)) : Bool := l.all (fun v => vCheck v == 0)
def vJoin (l : List (List En)) : List En × Int := if rights l = true then (if 64 < (vAll [] l).length then ([], 3) else (vAll [] l, 0)) else ([], 1)
theorem rights_iff {l : List (List En)} : rights l = true ↔ ∀ v ∈ l, vCheck v = 0 := by
  unfold rights
  rw [List.all_eq_true]
  exact ⟨fun h v hv => by simpa using h v hv, fun h v hv => by simpa using h v hv⟩
theorem rights_good {l : List (List En)} (h : rights l = true) : ∀ v ∈ l, Good v := fun v hv => ((check_zero v).1 (rights_iff.1 h v hv)).2
/-- What is joined is what any right vector is that knows the most of each actor. -/
theorem join_unique {l : List (List En)} (h : rights l = true) {v : List En} (hv : Good v) (hc : ∀ z, vCount v z = most l z) : v = vAll [] l := by
  refine vec_ext hv (all_good Good.nil (rights_good h)) (fun z => ?_)
  rw [all_count Good.nil (rights_good h) z, hc z]
  show _ = max 0 _
  omega
theorem join_two (a b : List En) : vJoin [a, b] = vJoin [b, a] := by
  unfold vJoin
  have e : rights [b, a] = rights [a, b] := by unfold rights; simp only [List.all_cons, List.all_nil, Bool.and_true]; exact Bool.and_comm _ _
  rw [e]
  cases h : rights [a, b] with
  | false => rfl
  | true =>
    have h' : rights [b, a] = true := e.trans h
    have : vAll [] [b, a] = vAll [] [a, b] := join_unique h (all_good Good.nil (rights_good h')) (fun z => by
      rw [all_count Good.nil (rights_good h') z]
      show max 0 (max _ (max _ 0)) = max _ (max _ 0)
      omega)
    rw [this]
theorem join_zero {l : List (List En)} (h : (vJoin l).2 = 0) : rights l = true ∧ (vJoin l).1 = vAll [] l ∧ vCheck (vJoin l).1 = 0 ∧ Good (vJoin l).1 ∧ ∀ z, vCount (vJoin l).1 z = most l z := by
  unfold vJoin at h ⊢
  cases hr : rights l with
  | false => rw [hr, if_neg (by decide)] at h; exact absurd h (by decide)
  | true =>
    rw [hr, if_pos rfl] at h
    rw [if_pos rfl]
    by_cases hl : 64 < (vAll [] l).length
    · rw [if_pos hl] at h; exact absurd h (by decide)
    · rw [if_neg hl]
      have hg := all_good Good.nil (rights_good hr)
      exact ⟨rfl, rfl, (check_zero _).2 ⟨by show (vAll [] l).length ≤ 64; omega, hg⟩, hg, fun z => by rw [all_count Good.nil (rights_good hr) z]; show max 0 _ = _; omega⟩
theorem join_bad {l : List (List En)} (h : (vJoin l).2 ≠ 0) : (vJoin l).1 = [] := by
  unfold vJoin at h ⊢
  split
  · rename_i hr
    rw [if_pos hr] at h
    split
    · rfl
    · rename_i hl
      rw [if_neg hl] at h
      exact absurd rfl h
  · rfl
/-- P10.4. -/
theorem join_above {a b : List En} (h : (vJoin [a, b]).2 = 0) : vAbove (vJoin [a, b]).1 a = true ∧ vAbove (vJoin [a, b]).1 b = true := by
  obtain ⟨h1, _, _, _, h5⟩ := join_zero h
  have ha := rights_good h1 a List.mem_cons_self
  have hb := rights_good h1 b (List.mem_cons_of_mem _ List.mem_cons_self)
  have e : ∀ z, most [a, b] z = max (vCount a z) (max (vCount b z) 0) := fun _ => rfl
  exact ⟨(above_iff ha).2 fun z => by rw [h5, e]; omega, (above_iff hb).2 fun z => by rw [h5, e]; omega⟩
theorem join_least {a b : List En} (h : (vJoin [a, b]).2 = 0) (c : List En) : vAbove c (vJoin [a, b]).1 = (vAbove c a && vAbove c b) := by
  obtain ⟨h1, _, _, h4, h5⟩ := join_zero h
  have ha := rights_good h1 a List.mem_cons_self
  have hb := rights_good h1 b (List.mem_cons_of_mem _ List.mem_cons_self)
  have e : ∀ z, most [a, b] z = max (vCount a z) (max (vCount b z) 0) := fun _ => rfl
  rw [Bool.eq_iff_iff, Bool.and_eq_true, above_iff h4, above_iff ha, above_iff hb]
  constructor
  · intro h
    refine ⟨fun z => ?_, fun z => ?_⟩
    · have := h z; rw [h5, e] at this; omega
    · have := h z; rw [h5, e] at this; omega
  · intro ⟨h1, h2⟩ z
    have := h1 z
    have := h2 z
    rw [h5, e]
    omega

/-! ### an event more -/
def vEvent (v : List En) (a : ByteArray) : List En × Int :=
  if vCheck v = 0 ∧ 0 < a.size ∧ a.size ≤ 32 then (if vCount v a = 18446744073709551615 then ([], 5) else if 64 < (vPut v ⟨a, vCount v a + 1⟩).length then ([], 3) else (vPut v ⟨a, vCount v a + 1⟩, 0)) else ([], 1)
theorem event_bad {v : List En} {a : ByteArray} (h : (vEvent v a).2 ≠ 0) : (vEvent v a).1 = [] := by
  unfold vEvent at h ⊢
  split
  · rename_i h1
    rw [if_pos h1] at h
    split
    · rfl
    · rename_i h2
      rw [if_neg h2] at h
      split
      · rfl
      · rename_i h3
        rw [if_neg h3] at h
        exact absurd rfl h
  · rfl
theorem event_zero {v : List En} {a : ByteArray} (h : (vEvent v a).2 = 0) :
    vCheck v = 0 ∧ vCheck (vEvent v a).1 = 0 ∧ Good v ∧ Good (vEvent v a).1 ∧ vCount v a ≠ 18446744073709551615 ∧ ∀ z, vCount (vEvent v a).1 z = if a = z then vCount v z + 1 else vCount v z := by
  unfold vEvent at h ⊢
  by_cases h1 : vCheck v = 0 ∧ 0 < a.size ∧ a.size ≤ 32
  · rw [if_pos h1] at h ⊢
    by_cases h2 : vCount v a = 18446744073709551615
    · rw [if_pos h2] at h; exact absurd h (by decide)
    rw [if_neg h2] at h ⊢
    by_cases h3 : 64 < (vPut v ⟨a, vCount v a + 1⟩).length
    · rw [if_pos h3] at h; exact absurd h (by decide)
    rw [if_neg h3]
    have hg := ((check_zero v).1 h1.1).2
    have hp : Good (vPut v ⟨a, vCount v a + 1⟩) := put_good hg ⟨h1.2.1, h1.2.2, by show vCount v a + 1 ≠ 0; omega⟩
    refine ⟨h1.1, (check_zero _).2 ⟨by show (vPut v ⟨a, vCount v a + 1⟩).length ≤ 64; omega, hp⟩, hg, hp, h2, fun z => ?_⟩
    show vCount (vPut v ⟨a, vCount v a + 1⟩) z = _
    rw [put_count hg z]
    show (if a = z then max (vCount v z) (vCount v a + 1) else vCount v z) = _
    by_cases e : a = z
    · subst e
      rw [if_pos rfl, if_pos rfl]
      omega
    · rw [if_neg e, if_neg e]
  · rw [if_neg h1] at h
    exact absurd h (by decide)
theorem event_up {v : List En} {a : ByteArray} (h : (vEvent v a).2 = 0) : vAbove (vEvent v a).1 v = true ∧ vAbove v (vEvent v a).1 = false := by
  obtain ⟨_, _, h3, h4, _, h6⟩ := event_zero h
  refine ⟨(above_iff h3).2 fun z => ?_, ?_⟩
  · rw [h6]
    split <;> omega
  · cases hb : vAbove v (vEvent v a).1 with
    | false => rfl
    | true =>
      have := (above_iff h4).1 hb a
      rw [h6, if_pos rfl] at this
      omega
/-- What Order answers of right vectors. -/
def vOrder (a b : List En) : Int := if vAbove a b = true then (if vAbove b a = true then 0 else 1) else (if vAbove b a = true then -1 else 2)
end Go.Proofs.Ytmcinehbhgaiaaa
