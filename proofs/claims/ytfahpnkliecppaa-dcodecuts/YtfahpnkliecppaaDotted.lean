/-
  Dotted clocks, on lists of entries: which are right, what they know, which covers which, their ceiling, and which are kept. No program.
  Conditions: none beyond what each lemma states.
-/
import Derived.Test.YtfahpnkliecppaaVector
namespace Go.Proofs.Ytfahpnkliecppaa
open Go.RowKit

/-- A clock: its vector, whether it is dotted, the dot. -/
structure Ck where
  c : List En
  d : Bool
  x : En
def kDot (k : Ck) : Int :=
  if k.d = true then (if 32 < k.x.a.size then 3 else if k.x.a.size = 0 then 14 else if k.x.n = 0 then 7 else if k.x.n ≤ vCount k.c k.x.a then 15 else 0)
  else (if k.x.a.size = 0 ∧ k.x.n = 0 then 0 else 1)
def kCheck (k : Ck) : Int := if vCheck k.c = 0 then kDot k else vCheck k.c
/-- Right, in plain words. -/
structure Right (k : Ck) : Prop where
  vec : vCheck k.c = 0
  good : Good k.c
  plain : k.d = false → k.x.a.size = 0 ∧ k.x.n = 0
  dot : k.d = true → k.x.ok ∧ vCount k.c k.x.a < k.x.n
theorem dot_zero (k : Ck) : kDot k = 0 ↔ (k.d = false → k.x.a.size = 0 ∧ k.x.n = 0) ∧ (k.d = true → k.x.ok ∧ vCount k.c k.x.a < k.x.n) := by
  unfold kDot En.ok
  cases k.d with
  | false =>
    rw [if_neg (by decide)]
    constructor
    · intro h
      refine ⟨fun _ => ?_, (fun e => by cases e)⟩
      by_cases h0 : k.x.a.size = 0 ∧ k.x.n = 0
      · exact h0
      · rw [if_neg h0] at h; exact absurd h (by decide)
    · intro h
      rw [if_pos (h.1 rfl)]
  | true =>
    rw [if_pos rfl]
    constructor
    · intro h
      refine ⟨(fun e => by cases e), fun _ => ?_⟩
      by_cases h1 : 32 < k.x.a.size
      · rw [if_pos h1] at h; exact absurd h (by decide)
      rw [if_neg h1] at h
      by_cases h2 : k.x.a.size = 0
      · rw [if_pos h2] at h; exact absurd h (by decide)
      rw [if_neg h2] at h
      by_cases h3 : k.x.n = 0
      · rw [if_pos h3] at h; exact absurd h (by decide)
      rw [if_neg h3] at h
      by_cases h4 : k.x.n ≤ vCount k.c k.x.a
      · rw [if_pos h4] at h; exact absurd h (by decide)
      exact ⟨⟨by omega, by omega, h3⟩, by omega⟩
    · intro h
      obtain ⟨⟨h1, h2, h3⟩, h4⟩ := h.2 rfl
      rw [if_neg (by omega), if_neg (by omega), if_neg h3, if_neg (by omega)]
theorem right_iff (k : Ck) : kCheck k = 0 ↔ Right k := by
  unfold kCheck
  by_cases h : vCheck k.c = 0
  · rw [if_pos h, dot_zero]
    exact ⟨fun e => ⟨h, ((check_zero _).1 h).2, e.1, e.2⟩, fun e => ⟨e.plain, e.dot⟩⟩
  · rw [if_neg h]
    exact ⟨fun e => absurd e h, fun e => absurd e.vec h⟩

/-! ### what is known -/
def kKnows (k : Ck) (s : ByteArray) (n : Nat) : Bool := decide (n ≠ 0) && ((k.d && decide (k.x.a = s ∧ k.x.n = n)) || decide (n ≤ vCount k.c s))
theorem knows_iff {k : Ck} {s : ByteArray} {n : Nat} : kKnows k s n = true ↔ n ≠ 0 ∧ ((k.d = true ∧ k.x.a = s ∧ k.x.n = n) ∨ n ≤ vCount k.c s) := by
  unfold kKnows
  rw [Bool.and_eq_true, Bool.or_eq_true, Bool.and_eq_true, decide_eq_true_iff, decide_eq_true_iff, decide_eq_true_iff]
/-- How many events of an actor are known, from the first on. -/
def hav (k : Ck) (s : ByteArray) : Nat := if k.d = true ∧ k.x.a = s ∧ k.x.n = vCount k.c s + 1 then vCount k.c s + 1 else vCount k.c s
theorem hav_yes {k : Ck} {s : ByteArray} (h : k.d = true ∧ k.x.a = s ∧ k.x.n = vCount k.c s + 1) : hav k s = vCount k.c s + 1 := if_pos h
theorem hav_no {k : Ck} {s : ByteArray} (h : ¬ (k.d = true ∧ k.x.a = s ∧ k.x.n = vCount k.c s + 1)) : hav k s = vCount k.c s := if_neg h
def kCovers (a b : Ck) : Bool := (!b.d || kKnows a b.x.a b.x.n) && b.c.all (fun y => decide (y.n ≤ hav a y.a))
/-- One covers another just if it knows all that that knows. -/
theorem covers_iff {a b : Ck} (hb : Right b) : kCovers a b = true ↔ ∀ s n, kKnows b s n = true → kKnows a s n = true := by
  unfold kCovers
  rw [Bool.and_eq_true, Bool.or_eq_true, List.all_eq_true]
  constructor
  · rintro ⟨h1, h2⟩ s n hk
    obtain ⟨hn, hk⟩ := knows_iff.1 hk
    rcases hk with ⟨hd, rfl, rfl⟩ | hle
    · rcases h1 with h1 | h1
      · rw [hd] at h1; cases h1
      · exact h1
    · obtain ⟨y, hy, rfl, hyn⟩ := count_pos (v := b.c) (a := s) (by omega)
      have h3 := of_decide_eq_true (h2 y hy)
      rw [knows_iff]
      refine ⟨hn, ?_⟩
      by_cases hc : a.d = true ∧ a.x.a = y.a ∧ a.x.n = vCount a.c y.a + 1
      · rw [hav_yes hc] at h3
        by_cases he : n = vCount a.c y.a + 1
        · exact Or.inl ⟨hc.1, hc.2.1, by rw [hc.2.2, he]⟩
        · exact Or.inr (by omega)
      · rw [hav_no hc] at h3
        exact Or.inr (by omega)
  · intro h
    refine ⟨?_, fun y hy => decide_eq_true ?_⟩
    · cases hd : b.d with
      | false => exact Or.inl rfl
      | true => exact Or.inr (h _ _ (knows_iff.2 ⟨(hb.dot hd).1.2.2, Or.inl ⟨hd, rfl, rfl⟩⟩))
    · have hk : ∀ n, n ≠ 0 → n ≤ y.n → kKnows a y.a n = true := fun n hn hle => h _ _ (knows_iff.2 ⟨hn, Or.inr (by rw [count_mem hb.good y hy]; exact hle)⟩)
      by_cases hc : a.d = true ∧ a.x.a = y.a ∧ a.x.n = vCount a.c y.a + 1
      · rw [hav_yes hc]
        by_cases hlt : y.n ≤ vCount a.c y.a + 1
        · exact hlt
        · obtain ⟨_, h2⟩ := knows_iff.1 (hk (vCount a.c y.a + 2) (by omega) (by omega))
          rcases h2 with ⟨_, _, h2⟩ | h2
          · omega
          · omega
      · rw [hav_no hc]
        by_cases hlt : y.n ≤ vCount a.c y.a
        · exact hlt
        · obtain ⟨_, h2⟩ := knows_iff.1 (hk (vCount a.c y.a + 1) (by omega) (by omega))
          rcases h2 with h2 | h2
          · exact absurd h2 hc
          · omega
theorem covers_refl {a : Ck} (ha : Right a) : kCovers a a = true := (covers_iff ha).2 (fun _ _ h => h)
theorem covers_trans {a b c : Ck} (hb : Right b) (hc : Right c) (h1 : kCovers a b = true) (h2 : kCovers b c = true) : kCovers a c = true :=
  (covers_iff hc).2 (fun s n h => (covers_iff hb).1 h1 s n ((covers_iff hc).1 h2 s n h))

/-! ### which are kept -/
/-- Is the clock at j a reason not to keep that at i? -/
def beats (l : List Ck) (j i : Nat) : Bool := match l[j]?, l[i]? with
  | some a, some b => !(j == i) && kCovers a b && !(kCovers b a && decide (i < j))
  | _, _ => false
def keepAt (l : List Ck) (i : Nat) : Bool := (List.range l.length).all (fun j => !beats l j i)
def kRights (l : List Ck) : Bool := l.all (fun k => kCheck k == 0)
def kKept (l : List Ck) : List Nat := (List.range l.length).filter (keepAt l)
def kKeep (l : List Ck) : List Nat × Int := if kRights l = true then (kKept l, 0) else ([], 1)
theorem kRights_iff {l : List Ck} : kRights l = true ↔ ∀ k ∈ l, Right k := by
  unfold kRights
  rw [List.all_eq_true]
  exact ⟨fun h k hk => (right_iff k).1 (by simpa using h k hk), fun h k hk => by simpa using (right_iff k).2 (h k hk)⟩
theorem beats_iff {l : List Ck} {j i : Nat} (hj : j < l.length) (hi : i < l.length) : beats l j i = true ↔ j ≠ i ∧ kCovers l[j] l[i] = true ∧ ¬ (kCovers l[i] l[j] = true ∧ i < j) := by
  unfold beats
  rw [List.getElem?_eq_getElem hj, List.getElem?_eq_getElem hi]
  simp only [Bool.and_eq_true, Bool.not_eq_true', beq_eq_false_iff_ne, Bool.and_eq_false_imp, decide_eq_false_iff_not, ne_eq, not_and]
  constructor
  · rintro ⟨⟨h1, h2⟩, h3⟩
    exact ⟨h1, h2, h3⟩
  · rintro ⟨h1, h2, h3⟩
    exact ⟨⟨h1, h2⟩, h3⟩
theorem beats_lt {l : List Ck} {j i : Nat} (h : beats l j i = true) : j < l.length ∧ i < l.length := by
  unfold beats at h
  by_cases hj : j < l.length
  · by_cases hi : i < l.length
    · exact ⟨hj, hi⟩
    · rw [List.getElem?_eq_none (Nat.le_of_not_lt hi)] at h
      split at h
      · rename_i h2; cases h2
      · cases h
  · rw [List.getElem?_eq_none (Nat.le_of_not_lt hj)] at h
    split at h
    · rename_i h1 _; cases h1
    · cases h
theorem beats_irr (l : List Ck) (i : Nat) : beats l i i = false := by
  cases h : beats l i i with
  | false => rfl
  | true =>
    have hi := (beats_lt h).1
    exact absurd rfl ((beats_iff hi hi).1 h).1
theorem beats_trans {l : List Ck} (hr : ∀ k ∈ l, Right k) {i j k : Nat} (h1 : beats l k j = true) (h2 : beats l j i = true) : beats l k i = true := by
  obtain ⟨hk, hj⟩ := beats_lt h1
  obtain ⟨_, hi⟩ := beats_lt h2
  have ri := hr _ (List.getElem_mem hi)
  have rj := hr _ (List.getElem_mem hj)
  have rk := hr _ (List.getElem_mem hk)
  obtain ⟨a1, a2, a3⟩ := (beats_iff hk hj).1 h1
  obtain ⟨b1, b2, b3⟩ := (beats_iff hj hi).1 h2
  rw [beats_iff hk hi]
  refine ⟨?_, covers_trans rj ri a2 b2, ?_⟩
  · rintro rfl
    have c1 : ¬ j < k := fun h => a3 ⟨b2, h⟩
    have c2 : ¬ k < j := fun h => b3 ⟨a2, h⟩
    omega
  · rintro ⟨c1, c2⟩
    have d1 : kCovers l[j] l[k] = true := covers_trans ri rk b2 c1
    have d2 : kCovers l[i] l[j] = true := covers_trans rk rj c1 a2
    have e1 : ¬ j < k := fun h => a3 ⟨d1, h⟩
    have e2 : ¬ i < j := fun h => b3 ⟨d2, h⟩
    omega
theorem countP_lt {p q : Nat → Bool} : ∀ {l : List Nat} {x : Nat}, (∀ y ∈ l, p y = true → q y = true) → x ∈ l → q x = true → p x = false → l.countP p < l.countP q
  | y :: l, x, h, hx, hq, hp => by
    have hle : l.countP p ≤ l.countP q := List.countP_mono_left (fun z hz => h z (List.mem_cons_of_mem _ hz))
    rw [List.countP_cons, List.countP_cons]
    rcases List.mem_cons.1 hx with rfl | hx
    · rw [if_pos hq, if_neg (by rw [hp]; decide)]
      omega
    · have := countP_lt (fun z hz => h z (List.mem_cons_of_mem _ hz)) hx hq hp
      have hy := h y List.mem_cons_self
      split
      · rename_i hpy
        rw [if_pos (hy hpy)]
        omega
      · split <;> omega
/-- Whatever is beaten is beaten by one that is kept. -/
theorem kept_beats {l : List Ck} (hr : ∀ k ∈ l, Right k) : ∀ (m i : Nat), (List.range l.length).countP (fun j => beats l j i) ≤ m → i < l.length → keepAt l i = false → ∃ j, keepAt l j = true ∧ beats l j i = true
  | 0, i, hm, hi, h => by
    unfold keepAt at h
    obtain ⟨j, hj, hb⟩ := List.all_eq_false.1 h
    have hb : beats l j i = true := by simpa using hb
    have : 0 < (List.range l.length).countP (fun z => beats l z i) := List.countP_pos_iff.2 ⟨j, hj, hb⟩
    omega
  | m + 1, i, hm, hi, h => by
    unfold keepAt at h
    obtain ⟨j, hj, hb⟩ := List.all_eq_false.1 h
    have hb : beats l j i = true := by simpa using hb
    have hjl := (beats_lt hb).1
    cases hk : keepAt l j with
    | true => exact ⟨j, hk, hb⟩
    | false =>
      have hlt : (List.range l.length).countP (fun z => beats l z j) < (List.range l.length).countP (fun z => beats l z i) :=
        countP_lt (fun z _ hz => beats_trans hr hz hb) hj hb (beats_irr l j)
      obtain ⟨z, h1, h2⟩ := kept_beats hr m j (by omega) hjl hk
      exact ⟨z, h1, beats_trans hr h2 hb⟩
theorem kept_mem {l : List Ck} {i : Nat} : i ∈ kKept l ↔ i < l.length ∧ keepAt l i = true := by
  unfold kKept
  rw [List.mem_filter, List.mem_range]
theorem kept_rises (l : List Ck) : (kKept l).Pairwise (· < ·) := (List.pairwise_lt_range).filter _
/-- P12.4. -/
theorem kept_least {l : List Ck} (hr : ∀ k ∈ l, Right k) {i : Nat} (hi : i < l.length) : (i ∈ kKept l ∧ ∀ j (hj : j < l.length), j ∈ kKept l → j ≠ i → kCovers l[j] l[i] = false) ∨ (i ∉ kKept l ∧ ∃ j, ∃ hj : j < l.length, j ∈ kKept l ∧ j ≠ i ∧ kCovers l[j] l[i] = true) := by
  cases hk : keepAt l i with
  | true =>
    refine Or.inl ⟨kept_mem.2 ⟨hi, hk⟩, fun j hj hjk hne => ?_⟩
    cases hc : kCovers l[j] l[i] with
    | false => rfl
    | true =>
      have h1 : beats l j i = false := by
        have := List.all_eq_true.1 hk j (List.mem_range.2 hj)
        simpa using this
      have h2 : beats l i j = false := by
        have := List.all_eq_true.1 (kept_mem.1 hjk).2 i (List.mem_range.2 hi)
        simpa using this
      have e1 : kCovers l[i] l[j] = true ∧ i < j := Decidable.byContradiction fun h => by
        rw [(beats_iff hj hi).2 ⟨hne, hc, h⟩] at h1
        cases h1
      have e2 : kCovers l[j] l[i] = true ∧ j < i := Decidable.byContradiction fun h => by
        rw [(beats_iff hi hj).2 ⟨fun e => hne e.symm, e1.1, h⟩] at h2
        cases h2
      omega
  | false =>
    refine Or.inr ⟨fun h => (by rw [(kept_mem.1 h).2] at hk; cases hk), ?_⟩
    obtain ⟨j, h1, h2⟩ := kept_beats hr _ i (Nat.le_refl _) hi hk
    have hj := (beats_lt h2).1
    obtain ⟨a1, a2, _⟩ := (beats_iff hj hi).1 h2
    exact ⟨j, hj, kept_mem.2 ⟨hj, h1⟩, a1, a2⟩

/-! ### the ceiling -/
def ceilV (k : Ck) : List En := if k.d = true then vPut k.c k.x else k.c
theorem ceilV_dot {k : Ck} (h : k.d = true) : ceilV k = vPut k.c k.x := if_pos h
theorem ceilV_plain {k : Ck} (h : k.d = false) : ceilV k = k.c := if_neg (by rw [h]; decide)
theorem ceilV_good {k : Ck} (h : Right k) : Good (ceilV k) := by
  cases hd : k.d with
  | false => rw [ceilV_plain hd]; exact h.good
  | true => rw [ceilV_dot hd]; exact put_good h.good (h.dot hd).1
theorem ceilV_len {k : Ck} (h : Right k) : (ceilV k).length ≤ 65 := by
  have h1 := ((check_zero _).1 h.vec).1
  cases hd : k.d with
  | false => rw [ceilV_plain hd]; omega
  | true =>
    rw [ceilV_dot hd]
    have := put_len k.c k.x
    omega
/-- The vectors of one entry each. -/
def singles (v : List En) : List (List En) := v.map (fun e => [e])
theorem singles_app (v w : List En) : singles (v ++ w) = singles v ++ singles w := List.map_append
theorem all_singles : ∀ (v o : List En), vAll o (singles v) = vPuts o v
  | [], _ => rfl
  | x :: v, o => by
    show vAll (vPut o x) (singles v) = vPuts (vPut o x) v
    exact all_singles v _
def kCeil (l : List Ck) : List En × Int := if kRights l = true then (if 64 < (vPuts [] (l.flatMap ceilV)).length then ([], 3) else (vPuts [] (l.flatMap ceilV), 0)) else ([], 1)
/-- The most that one of their ceilings knows. -/
def kMost : List Ck → ByteArray → Nat
  | [], _ => 0
  | k :: l, z => max (vCount (ceilV k) z) (kMost l z)
theorem ceil_ok {l : List Ck} (h : ∀ k ∈ l, Right k) : ∀ x ∈ l.flatMap ceilV, x.ok := by
  intro x hx
  obtain ⟨k, hk, hx⟩ := List.mem_flatMap.1 hx
  exact (ceilV_good (h k hk)).1 x hx
theorem ceil_good {l : List Ck} (h : ∀ k ∈ l, Right k) : Good (vPuts [] (l.flatMap ceilV)) := puts_good Good.nil (ceil_ok h)
theorem ceil_count : ∀ {l : List Ck} {o : List En}, Good o → (∀ k ∈ l, Right k) → ∀ z, vCount (vPuts o (l.flatMap ceilV)) z = max (vCount o z) (kMost l z)
  | [], o, _, _, z => by show vCount o z = max (vCount o z) 0; omega
  | k :: l, o, h, hl, z => by
    have hk := ceilV_good (hl k List.mem_cons_self)
    rw [List.flatMap_cons, puts_app, ceil_count (puts_good h hk.1) (fun y hy => hl y (List.mem_cons_of_mem _ hy)) z, puts_count h hk z, kMost]
    omega
/-- Any right vector that knows the most of each actor is the ceiling. -/
theorem ceil_unique {l : List Ck} (h : ∀ k ∈ l, Right k) {v : List En} (hv : Good v) (hc : ∀ z, vCount v z = kMost l z) : v = vPuts [] (l.flatMap ceilV) := by
  refine vec_ext hv (ceil_good h) (fun z => ?_)
  rw [ceil_count Good.nil h z, hc z, count_nil]
  omega
/-- What the document's own Ceiling joins. -/
theorem ceil_join {l : List Ck} (h : kRights l = true) : vJoin (singles (l.flatMap ceilV)) = kCeil l := by
  have hr := kRights_iff.1 h
  have h1 : rights (singles (l.flatMap ceilV)) = true := by
    rw [rights_iff]
    intro v hv
    obtain ⟨x, hx, rfl⟩ := List.mem_map.1 hv
    exact (check_zero _).2 ⟨by show 1 ≤ 64; omega, Good.cons (ceil_ok hr x hx) Good.nil (fun _ h => by cases h)⟩
  unfold vJoin kCeil
  rw [if_pos h1, if_pos h, all_singles]
theorem ceil_no {l : List Ck} (h : kRights l = false) : kCeil l = ([], 1) := by unfold kCeil; rw [h]; exact if_neg (by decide)
end Go.Proofs.Ytfahpnkliecppaa
