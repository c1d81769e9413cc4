/-
  The pen in memory: what a block must hold to be a pen with a text, a limit and an error; how that is carried through writes; and appending to its text.
  Conditions: none beyond what each lemma states.
-/
import Derived.Test.YtaleennijfefnaaGreatBase
import Derived.Test.YtaleennijfefnaaGreatChecked
import Derived.Lib.AppendStr
import Derived.Deep.AppendLies
import Derived.Laws.IdiomStrings
import Derived.Laws.BytesArg
namespace Go.Proofs.YtaleennijfefnaaGreat
open Go.RowKit
open Go.Lib (strCells strCells_length strCells_oneCell)

theorem strCells_append (s t : ByteArray) : strCells (s ++ t) = strCells s ++ strCells t := by
  simp [strCells, ByteArray.data_append]
theorem strCells_empty : strCells ⟨#[]⟩ = [] := rfl

/-- Two footprints: the block b, and the row r. -/
abbrev two (b r : Nat) : Nat → Prop := fun k => k = b ∨ k = r

theorem Keep.ofGrown {w w' : World} {row : Option Nat} {R : Nat → Prop} (h : w.grownBy w' row) (hr : ∀ k, row = some k → R k) : Keep R w w' :=
  ⟨h.os, h.tape, h.output, h.size, fun k hk hn => h.block k hk (fun e => hn (hr k e.symm))⟩

/-- THE PEN at block b: its text t in a row r of its own (r = b: it has none), a limit m, an error e. -/
structure Pen (w : World) (b r : Nat) (t : ByteArray) (m e : Int) : Prop where
  blk : ∃ v ty, w.heap[b]? = some (.cells #[v, .int .i64 m, .int .i64 e] ty) ∧ w.ownsRow 0 5 1 v t.size (strCells t) ∧ ((v = .slice none 0 0 ∧ r = b) ∨ ((∃ cap, v = .slice (some ⟨r, 0, none⟩) t.size cap) ∧ r ≠ b))
  lo : 0 ≤ m
  fit : t.size ≤ m
  mx : m ≤ 9223372036854775807

theorem Pen.lt {w : World} {b r : Nat} {t : ByteArray} {m e : Int} (h : Pen w b r t m e) : b < w.heap.size := by
  obtain ⟨v, ty, hb, _⟩ := h.blk
  exact (Array.getElem?_eq_some_iff.mp hb).1
theorem Pen.rlt {w : World} {b r : Nat} {t : ByteArray} {m e : Int} (h : Pen w b r t m e) : r < w.heap.size := by
  have hb := h.lt
  obtain ⟨v, ty, _, ho, (⟨_, hr⟩ | ⟨⟨cap, hv⟩, _⟩)⟩ := h.blk
  · omega
  · exact (ho.lt r (by rw [hv]; rfl)).2
theorem Pen.cells {w : World} {b r : Nat} {t : ByteArray} {m e : Int} (h : Pen w b r t m e) :
    ∃ ao cap, w.cell? ⟨b, 0, none⟩ = some (.slice ao t.size cap) ∧ w.cell? ⟨b, 1, none⟩ = some (.int .i64 m) ∧ w.cell? ⟨b, 2, none⟩ = some (.int .i64 e) ∧ w.frozen? ⟨b, 0, none⟩ = false ∧ w.frozen? ⟨b, 2, none⟩ = false ∧
      w.ownsRow 0 5 1 (.slice ao t.size cap) t.size (strCells t) ∧ ((ao = none ∧ r = b) ∨ (ao = some ⟨r, 0, none⟩ ∧ r ≠ b)) := by
  obtain ⟨v, ty, hb, ho, hv⟩ := h.blk
  have h0 : v = .slice none 0 0 → t.size = 0 := by
    rintro rfl
    rcases ho.2 with ⟨_, h⟩ | ⟨_, _, _, h, _⟩
    · exact h
    · cases h
  rcases hv with ⟨rfl, rfl⟩ | ⟨⟨cap, rfl⟩, hne⟩
  · have := h0 rfl
    refine ⟨none, 0, ?_, ?_, ?_, ?_, ?_, ?_, .inl ⟨rfl, rfl⟩⟩ <;> first | (rw [this] at ho ⊢; exact ho) | simp [World.cell?, World.frozen?, hb, this]
  · refine ⟨some ⟨r, 0, none⟩, cap, ?_, ?_, ?_, ?_, ?_, ho, .inr ⟨rfl, hne⟩⟩ <;> simp [World.cell?, World.frozen?, hb]
theorem Pen.keep {R : Nat → Prop} {w w' : World} {b r : Nat} {t : ByteArray} {m e : Int} (h : Pen w b r t m e) (k : Keep R w w') (hb : ¬ R b) (hr : ¬ R r) : Pen w' b r t m e := by
  refine ⟨?_, h.lo, h.fit, h.mx⟩
  have hlt := h.rlt
  obtain ⟨v, ty, hk, ho, hv⟩ := h.blk
  refine ⟨v, ty, by rw [k.block b (Array.getElem?_eq_some_iff.mp hk).1 hb]; exact hk, ⟨ho.1, ?_⟩, hv⟩
  rcases ho.2 with hn | ⟨g, cap, cur, rfl, h1, h2, h3⟩
  · exact .inl hn
  · have hgr : g = r := by
      rcases hv with ⟨hv, _⟩ | ⟨⟨c, hv⟩, _⟩
      · cases hv
      · cases hv; rfl
    subst hgr
    exact .inr ⟨g, cap, cur, rfl, h1, by rw [k.block g hlt hr]; exact h2, h3⟩
theorem Pen.keep0 {w w' : World} {b r : Nat} {t : ByteArray} {m e : Int} (h : Pen w b r t m e) (k : Keep0 w w') : Pen w' b r t m e := h.keep k (fun f => f) (fun f => f)

theorem Pen.setErr {w : World} {b r : Nat} {t : ByteArray} {m e : Int} (h : Pen w b r t m e) (e' : Int) : Pen (w.setCell ⟨b, 2, none⟩ (.int .i64 e')) b r t m e' := by
  refine ⟨?_, h.lo, h.fit, h.mx⟩
  obtain ⟨v, ty, hk, ho, hv⟩ := h.blk
  refine ⟨v, ty, by rw [heap_setCell_at hk]; rfl, ⟨ho.1, ?_⟩, hv⟩
  rcases ho.2 with hn | ⟨g, cap, cur, rfl, h1, h2, h3⟩
  · exact .inl hn
  · have hgr : g ≠ b := by
      rcases hv with ⟨hv, _⟩ | ⟨⟨c, hv⟩, hne⟩
      · cases hv
      · cases hv; exact hne
    exact .inr ⟨g, cap, cur, rfl, h1, (Below.heap_setCell w ⟨b, 2, none⟩ (.int .i64 e') g hgr).trans h2, h3⟩

theorem Pen.new (w : World) (m : Int) (ty : TypeId) (h0 : 0 ≤ m) (h1 : m ≤ 9223372036854775807) : Pen (w.alloc (.cells #[.slice none 0 0, .int .i64 m, .int .i64 0] ty)) w.heap.size w.heap.size ⟨#[]⟩ m 0 :=
  ⟨⟨.slice none 0 0, ty, (MapKept.heap_alloc w _).1, World.ownsRow_nil _ _ _ _, .inl ⟨rfl, rfl⟩⟩, h0, h0, h1⟩

/-- What is left behind an append whose new value is stored back. -/
theorem Pen.put {w w1 : World} {b r : Nat} {t t' : ByteArray} {m e : Int} {ao ao' : Option Addr} {cap cap' : Nat} (h : Pen w b r t m e) (hao : (ao = none ∧ r = b) ∨ (ao = some ⟨r, 0, none⟩ ∧ r ≠ b))
    (hg : w.grownBy w1 (Value.ownBlock (.slice ao t.size cap))) (ho : w1.ownsRow 0 5 1 (.slice ao' t'.size cap') t'.size (strCells t'))
    (hat : Value.ownBlock (.slice ao' t'.size cap') = Value.ownBlock (.slice ao t.size cap) ∨ ∃ H, Value.ownBlock (.slice ao' t'.size cap') = some H ∧ w.heap.size ≤ H) (hfit : t'.size ≤ m) :
    ∃ r', Pen (w1.setCell ⟨b, 0, none⟩ (.slice ao' t'.size cap')) b r' t' m e ∧ Keep (two b r) w (w1.setCell ⟨b, 0, none⟩ (.slice ao' t'.size cap')) ∧ (r' = r ∨ w.heap.size ≤ r') := by
  have hlt := h.lt
  have hb1 : ¬ (some b = Value.ownBlock (.slice ao t.size cap)) := by
    rcases hao with ⟨rfl, _⟩ | ⟨rfl, hne⟩
    · simp [Value.ownBlock]
    · simp [Value.ownBlock]; omega
  have hK : Keep (two b r) w w1 := Keep.ofGrown hg (fun k hk => by
    rcases hao with ⟨rfl, _⟩ | ⟨rfl, _⟩
    · simp [Value.ownBlock] at hk
    · simp [Value.ownBlock] at hk; exact .inr hk.symm)
  have hK2 : Keep (two b r) w (w1.setCell ⟨b, 0, none⟩ (.slice ao' t'.size cap')) := hK.setCell (fun _ => .inl rfl) _
  obtain ⟨v, ty, hk, _, _⟩ := h.blk
  have hk1 : w1.heap[b]? = some (.cells #[v, .int .i64 m, .int .i64 e] ty) := (hg.block b hlt hb1).trans hk
  have hk2 : (w1.setCell ⟨b, 0, none⟩ (.slice ao' t'.size cap')).heap[b]? = some (.cells #[.slice ao' t'.size cap', .int .i64 m, .int .i64 e] ty) := by rw [heap_setCell_at hk1]; rfl
  rcases ho.2 with ⟨hv, hn⟩ | ⟨g, cp, cur, hv, h1, h2, h3⟩
  · injection hv with hv1 hv2 hv3
    subst hv1
    have hr : r = b := by
      rcases hao with ⟨_, hr⟩ | ⟨rfl, hne⟩
      · exact hr
      · rcases hat with hat | ⟨H, hat, _⟩ <;> simp [Value.ownBlock] at hat
    exact ⟨r, ⟨⟨_, ty, hk2, ⟨ho.1, .inl ⟨by rw [hn, hv3], hn⟩⟩, .inl ⟨by rw [hn, hv3], hr⟩⟩, h.lo, hfit, h.mx⟩, hK2, .inl rfl⟩
  · cases hv
    have hgb : g ≠ b ∧ (g = r ∨ w.heap.size ≤ g) := by
      rcases hat with hat | ⟨H, hat, hH⟩
      · rcases hao with ⟨rfl, _⟩ | ⟨rfl, hne⟩
        · simp [Value.ownBlock] at hat
        · simp [Value.ownBlock] at hat
          subst hat
          exact ⟨hne, .inl rfl⟩
      · simp [Value.ownBlock] at hat
        subst hat
        exact ⟨by omega, .inr hH⟩
    refine ⟨g, ⟨⟨_, ty, hk2, ⟨ho.1, .inr ⟨g, cap', cur, rfl, h1, ?_, h3⟩⟩, .inr ⟨⟨cap', rfl⟩, hgb.1⟩⟩, h.lo, hfit, h.mx⟩, hK2, hgb.2⟩
    exact (Below.heap_setCell w1 ⟨b, 0, none⟩ _ g hgb.1).trans h2

/-- 'append(b, s...)' of a string's bytes: as the library's law, and where the new slice lies. -/
theorem run_append_str {P : Program} (w : World) (t u ty e : TypeId) (i : TypeInfo) (ht : P.underlying t = some (.slice e)) (hu : P.underlying u = some .string) (hi : P.info? e = some i) (hz : i.zero = some (.int .u8 0))
    (hsize : i.size = 1) (hby : i.bytes = 1)
    (v : Value) (n : Nat) (xs : List Value) (hown : w.ownsRow 0 e 1 v n xs) (s : ByteArray) (hbytes : n + s.size ≤ 140737488355328) :
    ∃ ao cap w', (Builtin.append_ #[t, u] ty #[v, .string s]).run P w = .ok (.slice ao (n + s.size) cap) w' ∧ w'.ownsRow 0 e 1 (.slice ao (n + s.size) cap) (n + s.size) (xs ++ strCells s) ∧ w.grownBy w' v.ownBlock ∧
      (Value.ownBlock (.slice ao (n + s.size) cap) = v.ownBlock ∨ ∃ H, Value.ownBlock (.slice ao (n + s.size) cap) = some H ∧ w.heap.size ≤ H) := by
  have h63 : n + s.size ≤ maxLen := by unfold maxLen; omega
  obtain ⟨v', w', hr, h2, h3, h4⟩ := Go.Lib.run_append_own_string (P := P) w 0 t u ty e i ht hu hi hz hsize hby v n xs hown s h63 hbytes (Nat.zero_le _)
  have hform : ∃ ao cap, v' = .slice ao (n + s.size) cap := by
    rcases h2.2 with ⟨hv, hn⟩ | ⟨g, cap, _, hv, _⟩
    · exact ⟨none, 0, by rw [hv, hn]⟩
    · exact ⟨_, _, hv⟩
  have hat : v'.ownBlock = v.ownBlock ∨ ∃ H, v'.ownBlock = some H ∧ w.heap.size ≤ H := by
    rcases hown.2 with ⟨rfl, rfl⟩ | ⟨g, cap, cur, rfl, hbg, hg, hnc, hcm, hcs, htake⟩
    · have hx : xs = [] := List.eq_nil_of_length_eq_zero (by simpa using hown.1)
      subst hx
      obtain ⟨v2, w2, hr2, g2, _, _⟩ := Go.Lib.run_append_own_string (P := P) w w.heap.size t u ty e i ht hu hi hz hsize hby (.slice none 0 0) 0 [] (World.ownsRow_nil _ _ _ _) s h63 hbytes (Nat.le_refl _)
      rw [hr2] at hr
      cases hr
      rcases g2.2 with ⟨hv, _⟩ | ⟨g, cap, _, hv, hb, _⟩
      · left; rw [hv]
      · right; exact ⟨g, by rw [hv]; rfl, hb⟩
    · by_cases hroom : n + s.size ≤ cap
      · have hr2 := Go.Lib.run_append_room_string (P := P) w t u ty e i ht hu hi hsize g n cap cur hg s hroom (by omega)
        rw [hr2] at hr
        cases hr
        left; rfl
      · have holds : ∀ j u, xs[j]? = some u → w.cell? ((⟨g, 0, none⟩ : Addr).add j) = some u := hown.cells (g := g) rfl
        have hr2 := Go.Lib.run_append_grow_string (P := P) w t u ty e i (.int .u8 0) ht hu hi hz ⟨g, 0, none⟩ n cap xs (by rw [hsize]; simpa using hown.1) holds s (by omega) (by omega) (by rw [hby]; exact growslice_fits (by omega) (by omega))
        rw [hr2] at hr
        cases hr
        right; exact ⟨_, rfl, Nat.le_refl _⟩
  obtain ⟨ao, cap, rfl⟩ := hform
  exact ⟨ao, cap, w', hr, h2, h3, hat⟩

theorem wpList_append_str {P : Program} (w : World) {ops : Array Oper} {rest : List Oper} {o : Oper} {a : Act} {Q : Exit → Act → World → Prop} (hgd : o.guard = none) (sl x : Operand) (t u : TypeId)
    (ho : o.op = .call { callee := .builtin .append, args := #[sl, x], argTypes := #[t, u] })
    (e : TypeId) (i : TypeInfo) (ht : P.underlying t = some (.slice e)) (hu : P.underlying u = some .string) (hi : P.info? e = some i) (hz : i.zero = some (.int .u8 0))
    (hsize : i.size = 1) (hby : i.bytes = 1)
    (v : Value) (n : Nat) (xs : List Value) (hs : a.eval sl = v) (hown : w.ownsRow 0 e 1 v n xs) (s : ByteArray) (hx : a.eval x = .string s) (hbytes : n + s.size ≤ 140737488355328)
    (h : ∀ ao cap w', w'.ownsRow 0 e 1 (.slice ao (n + s.size) cap) (n + s.size) (xs ++ strCells s) → w.grownBy w' v.ownBlock →
      (Value.ownBlock (.slice ao (n + s.size) cap) = v.ownBlock ∨ ∃ H, Value.ownBlock (.slice ao (n + s.size) cap) = some H ∧ w.heap.size ≤ H) → wpList P ops Q rest (a.put o.dst (.slice ao (n + s.size) cap)) w') : wpList P ops Q (o :: rest) a w := by
  refine wpList_plain hgd fun K hK => ?_
  obtain ⟨ao, cap, w', hr, h2, h3, h4⟩ := run_append_str (P := P) w t u o.type e i ht hu hi hz hsize hby v n xs hown s hbytes
  unfold Oper.wp execOp
  simp only [ho, resolve, invoke, builtin, Sem.run_bind, Sem.run_pure, Result.andThen_ok, List.map_toArray, List.map_cons, List.map_nil, hs, hx, hr]
  exact hK _ _ (h ao cap w' h2 h3 h4)

theorem infoU8 : (Tryz.prog.info? 5).map (fun i => (i.zero, i.size, i.bytes)) = some (some (.int .u8 0), 1, 1) := by kernel_rfl

/-- 'string(p.text)'. -/
theorem run_text {P : Program} (src dst : TypeId) (hs : P.underlying src = some (.slice 5)) (he : P.underlying 5 = some (.int .u8)) (hd : P.underlying dst = some .string)
    {w : World} {t : ByteArray} {ao : Option Addr} {cap : Nat} (ho : w.ownsRow 0 5 1 (.slice ao t.size cap) t.size (strCells t)) :
    (convert src dst (.slice ao t.size cap)).run P w = .ok (.string t) w := by
  rcases ho.2 with ⟨hv, hn⟩ | ⟨g, cp, cur, hv, _, hg, _, _, _, htk⟩
  · injection hv with hv1 hv2 hv3
    subst hv1
    have ht : t = ⟨#[]⟩ := by
      apply ByteArray.ext
      exact Array.eq_empty_of_size_eq_zero hn
    rw [hn, run_convert_bytes_nil w src 5 hs he 0 _ dst hd, ht]
    rfl
  · cases hv
    have hl : t.data.toList.length = t.size := by simp
    have h := run_convert_bytes_back (P := P) w src dst 5 ⟨g, 0, none⟩ cap t.data.toList hs he hd (fun j hj => by
      have hcell := ho.cells (g := g) rfl j (.int .u8 (t.data.toList[j].toNat : Int)) (by simp only [strCells, List.getElem?_map, List.getElem?_eq_getElem hj]; rfl)
      exact hcell)
    rw [hl] at h
    rw [h]
end Go.Proofs.YtaleennijfefnaaGreat
