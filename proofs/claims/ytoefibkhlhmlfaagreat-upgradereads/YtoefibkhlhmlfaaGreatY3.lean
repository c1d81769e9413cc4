/-
  What this seat's claims lean on of the texts L2.
  Conditions: as each theorem states.
-/
import Derived.WalkKit
import Derived.ProofKit
import Derived.Below
import Derived.Deep.Draws
import Derived.Deep.RegionHeld
import Derived.Test.YtoefibkhlhmlfaaGreatChecked
import Derived.OpenShut
import Derived.ShutString
import Derived.WalkSpells
import Derived.WalkLawsBesides
import Derived.Deep.QuietTactic
import Derived.BigQuiet
import Derived.Lib.AppendStr
import Derived.Deep.AppendLies
import Derived.Laws.IdiomStrings
import Derived.Laws.BytesArg
import Derived.Test.YtoefibkhlhmlfaaGreatY1
namespace Go.Proofs.YtoefibkhlhmlfaaGreat
open Go.RowKit
open Go.Lib (strCells strCells_length strCells_oneCell)
theorem strCells_append (s t : ByteArray) : strCells (s ++ t) = strCells s ++ strCells t := by
  simp [strCells, ByteArray.data_append]
abbrev two (b r : Nat) : Nat → Prop := fun k => k = b ∨ k = r
theorem Keep.ofGrown {w w' : World} {row : Option Nat} {R : Nat → Prop} (h : w.grownBy w' row) (hr : ∀ k, row = some k → R k) : Keep R w w' :=
  ⟨h.os, h.tape, h.output, h.size, fun k hk hn => h.block k hk (fun e => hn (hr k e.symm))⟩
structure Pen (w : World) (b r : Nat) (t : ByteArray) (m e : Int) : Prop where
  blk : ∃ v ty, w.heap[b]? = some (.cells #[v, .int .i64 m, .int .i64 e] ty) ∧ w.ownsRow 0 5 1 v t.size (strCells t) ∧ ((v = .slice none 0 0 ∧ r = b) ∨ ((∃ cap, v = .slice (some ⟨r, 0, none⟩) t.size cap) ∧ r ≠ b))
  lo : 0 ≤ m
  fit : t.size ≤ m
  mx : m ≤ 9223372036854775807
theorem Pen.lt {w : World} {b r : Nat} {t : ByteArray} {m e : Int} (h : Pen w b r t m e) : b < w.heap.size := by
  obtain ⟨v, ty, hb, _⟩ := h.blk
  exact (Array.getElem?_eq_some_iff.mp hb).1
theorem Pen.rlt {w : World} {b r : Nat} {t : ByteArray} {m e : Int} (h : Pen w b r t m e) : r < w.heap.size := by
  have hb := h.lt
  obtain ⟨v, ty, _, ho, (⟨_, hr⟩ | ⟨⟨cap, hv⟩, _⟩)⟩ := h.blk
  · omega
  · exact (ho.lt r (by rw [hv]; rfl)).2
theorem Pen.cells {w : World} {b r : Nat} {t : ByteArray} {m e : Int} (h : Pen w b r t m e) :
    ∃ ao cap, w.cell? ⟨b, 0, none⟩ = some (.slice ao t.size cap) ∧ w.cell? ⟨b, 1, none⟩ = some (.int .i64 m) ∧ w.cell? ⟨b, 2, none⟩ = some (.int .i64 e) ∧ w.frozen? ⟨b, 0, none⟩ = false ∧ w.frozen? ⟨b, 2, none⟩ = false ∧
      w.ownsRow 0 5 1 (.slice ao t.size cap) t.size (strCells t) ∧ ((ao = none ∧ r = b) ∨ (ao = some ⟨r, 0, none⟩ ∧ r ≠ b)) := by
  obtain ⟨v, ty, hb, ho, hv⟩ := h.blk
  have h0 : v = .slice none 0 0 → t.size = 0 := by
    rintro rfl
    rcases ho.2 with ⟨_, h⟩ | ⟨_, _, _, h, _⟩
    · exact h
    · cases h
  rcases hv with ⟨rfl, rfl⟩ | ⟨⟨cap, rfl⟩, hne⟩
  · have := h0 rfl
    refine ⟨none, 0, ?_, ?_, ?_, ?_, ?_, ?_, .inl ⟨rfl, rfl⟩⟩ <;> first | (rw [this] at ho ⊢; exact ho) | simp [World.cell?, World.frozen?, hb, this]
  · refine ⟨some ⟨r, 0, none⟩, cap, ?_, ?_, ?_, ?_, ?_, ho, .inr ⟨rfl, hne⟩⟩ <;> simp [World.cell?, World.frozen?, hb]
theorem Pen.keep {R : Nat → Prop} {w w' : World} {b r : Nat} {t : ByteArray} {m e : Int} (h : Pen w b r t m e) (k : Keep R w w') (hb : ¬ R b) (hr : ¬ R r) : Pen w' b r t m e := by
  refine ⟨?_, h.lo, h.fit, h.mx⟩
  have hlt := h.rlt
  obtain ⟨v, ty, hk, ho, hv⟩ := h.blk
  refine ⟨v, ty, by rw [k.block b (Array.getElem?_eq_some_iff.mp hk).1 hb]; exact hk, ⟨ho.1, ?_⟩, hv⟩
  rcases ho.2 with hn | ⟨g, cap, cur, rfl, h1, h2, h3⟩
  · exact .inl hn
  · have hgr : g = r := by
      rcases hv with ⟨hv, _⟩ | ⟨⟨c, hv⟩, _⟩
      · cases hv
      · cases hv; rfl
    subst hgr
    exact .inr ⟨g, cap, cur, rfl, h1, by rw [k.block g hlt hr]; exact h2, h3⟩
theorem Pen.keep0 {w w' : World} {b r : Nat} {t : ByteArray} {m e : Int} (h : Pen w b r t m e) (k : Keep0 w w') : Pen w' b r t m e := h.keep k (fun f => f) (fun f => f)
theorem Pen.setErr {w : World} {b r : Nat} {t : ByteArray} {m e : Int} (h : Pen w b r t m e) (e' : Int) : Pen (w.setCell ⟨b, 2, none⟩ (.int .i64 e')) b r t m e' := by
  refine ⟨?_, h.lo, h.fit, h.mx⟩
  obtain ⟨v, ty, hk, ho, hv⟩ := h.blk
  refine ⟨v, ty, by rw [heap_setCell_at hk]; rfl, ⟨ho.1, ?_⟩, hv⟩
  rcases ho.2 with hn | ⟨g, cap, cur, rfl, h1, h2, h3⟩
  · exact .inl hn
  · have hgr : g ≠ b := by
      rcases hv with ⟨hv, _⟩ | ⟨⟨c, hv⟩, hne⟩
      · cases hv
      · cases hv; exact hne
    exact .inr ⟨g, cap, cur, rfl, h1, (Below.heap_setCell w ⟨b, 2, none⟩ (.int .i64 e') g hgr).trans h2, h3⟩
theorem Pen.new (w : World) (m : Int) (ty : TypeId) (h0 : 0 ≤ m) (h1 : m ≤ 9223372036854775807) : Pen (w.alloc (.cells #[.slice none 0 0, .int .i64 m, .int .i64 0] ty)) w.heap.size w.heap.size ⟨#[]⟩ m 0 :=
  ⟨⟨.slice none 0 0, ty, (MapKept.heap_alloc w _).1, World.ownsRow_nil _ _ _ _, .inl ⟨rfl, rfl⟩⟩, h0, h0, h1⟩
theorem Pen.put {w w1 : World} {b r : Nat} {t t' : ByteArray} {m e : Int} {ao ao' : Option Addr} {cap cap' : Nat} (h : Pen w b r t m e) (hao : (ao = none ∧ r = b) ∨ (ao = some ⟨r, 0, none⟩ ∧ r ≠ b))
    (hg : w.grownBy w1 (Value.ownBlock (.slice ao t.size cap))) (ho : w1.ownsRow 0 5 1 (.slice ao' t'.size cap') t'.size (strCells t'))
    (hat : Value.ownBlock (.slice ao' t'.size cap') = Value.ownBlock (.slice ao t.size cap) ∨ ∃ H, Value.ownBlock (.slice ao' t'.size cap') = some H ∧ w.heap.size ≤ H) (hfit : t'.size ≤ m) :
    ∃ r', Pen (w1.setCell ⟨b, 0, none⟩ (.slice ao' t'.size cap')) b r' t' m e ∧ Keep (two b r) w (w1.setCell ⟨b, 0, none⟩ (.slice ao' t'.size cap')) ∧ (r' = r ∨ w.heap.size ≤ r') := by
  have hlt := h.lt
  have hb1 : ¬ (some b = Value.ownBlock (.slice ao t.size cap)) := by
    rcases hao with ⟨rfl, _⟩ | ⟨rfl, hne⟩
    · simp [Value.ownBlock]
    · simp [Value.ownBlock]; omega
  have hK : Keep (two b r) w w1 := Keep.ofGrown hg (fun k hk => by
    rcases hao with ⟨rfl, _⟩ | ⟨rfl, _⟩
    · simp [Value.ownBlock] at hk
    · simp [Value.ownBlock] at hk; exact .inr hk.symm)
  have hK2 : Keep (two b r) w (w1.setCell ⟨b, 0, none⟩ (.slice ao' t'.size cap')) := hK.setCell (fun _ => .inl rfl) _
  obtain ⟨v, ty, hk, _, _⟩ := h.blk
  have hk1 : w1.heap[b]? = some (.cells #[v, .int .i64 m, .int .i64 e] ty) := (hg.block b hlt hb1).trans hk
  have hk2 : (w1.setCell ⟨b, 0, none⟩ (.slice ao' t'.size cap')).heap[b]? = some (.cells #[.slice ao' t'.size cap', .int .i64 m, .int .i64 e] ty) := by rw [heap_setCell_at hk1]; rfl
  rcases ho.2 with ⟨hv, hn⟩ | ⟨g, cp, cur, hv, h1, h2, h3⟩
  · injection hv with hv1 hv2 hv3
    subst hv1
    have hr : r = b := by
      rcases hao with ⟨_, hr⟩ | ⟨rfl, hne⟩
      · exact hr
      · rcases hat with hat | ⟨H, hat, _⟩ <;> simp [Value.ownBlock] at hat
    exact ⟨r, ⟨⟨_, ty, hk2, ⟨ho.1, .inl ⟨by rw [hn, hv3], hn⟩⟩, .inl ⟨by rw [hn, hv3], hr⟩⟩, h.lo, hfit, h.mx⟩, hK2, .inl rfl⟩
  · cases hv
    have hgb : g ≠ b ∧ (g = r ∨ w.heap.size ≤ g) := by
      rcases hat with hat | ⟨H, hat, hH⟩
      · rcases hao with ⟨rfl, _⟩ | ⟨rfl, hne⟩
        · simp [Value.ownBlock] at hat
        · simp [Value.ownBlock] at hat
          subst hat
          exact ⟨hne, .inl rfl⟩
      · simp [Value.ownBlock] at hat
        subst hat
        exact ⟨by omega, .inr hH⟩
    refine ⟨g, ⟨⟨_, ty, hk2, ⟨ho.1, .inr ⟨g, cap', cur, rfl, h1, ?_, h3⟩⟩, .inr ⟨⟨cap', rfl⟩, hgb.1⟩⟩, h.lo, hfit, h.mx⟩, hK2, hgb.2⟩
    exact (Below.heap_setCell w1 ⟨b, 0, none⟩ _ g hgb.1).trans h2
theorem run_append_str {P : Program} (w : World) (t u ty e : TypeId) (i : TypeInfo) (ht : P.underlying t = some (.slice e)) (hu : P.underlying u = some .string) (hi : P.info? e = some i) (hz : i.zero = some (.int .u8 0))
    (hsize : i.size = 1) (hby : i.bytes = 1)
    (v : Value) (n : Nat) (xs : List Value) (hown : w.ownsRow 0 e 1 v n xs) (s : ByteArray) (hbytes : n + s.size ≤ 140737488355328) :
    ∃ ao cap w', (Builtin.append_ #[t, u] ty #[v, .string s]).run P w = .ok (.slice ao (n + s.size) cap) w' ∧ w'.ownsRow 0 e 1 (.slice ao (n + s.size) cap) (n + s.size) (xs ++ strCells s) ∧ w.grownBy w' v.ownBlock ∧
      (Value.ownBlock (.slice ao (n + s.size) cap) = v.ownBlock ∨ ∃ H, Value.ownBlock (.slice ao (n + s.size) cap) = some H ∧ w.heap.size ≤ H) := by
  have h63 : n + s.size ≤ maxLen := by unfold maxLen; omega
  obtain ⟨v', w', hr, h2, h3, h4⟩ := Go.Lib.run_append_own_string (P := P) w 0 t u ty e i ht hu hi hz hsize hby v n xs hown s h63 hbytes (Nat.zero_le _)
  have hform : ∃ ao cap, v' = .slice ao (n + s.size) cap := by
    rcases h2.2 with ⟨hv, hn⟩ | ⟨g, cap, _, hv, _⟩
    · exact ⟨none, 0, by rw [hv, hn]⟩
    · exact ⟨_, _, hv⟩
  have hat : v'.ownBlock = v.ownBlock ∨ ∃ H, v'.ownBlock = some H ∧ w.heap.size ≤ H := by
    rcases hown.2 with ⟨rfl, rfl⟩ | ⟨g, cap, cur, rfl, hbg, hg, hnc, hcm, hcs, htake⟩
    · have hx : xs = [] := List.eq_nil_of_length_eq_zero (by simpa using hown.1)
      subst hx
      obtain ⟨v2, w2, hr2, g2, _, _⟩ := Go.Lib.run_append_own_string (P := P) w w.heap.size t u ty e i ht hu hi hz hsize hby (.slice none 0 0) 0 [] (World.ownsRow_nil _ _ _ _) s h63 hbytes (Nat.le_refl _)
      rw [hr2] at hr
      cases hr
      rcases g2.2 with ⟨hv, _⟩ | ⟨g, cap, _, hv, hb, _⟩
      · left; rw [hv]
      · right; exact ⟨g, by rw [hv]; rfl, hb⟩
    · by_cases hroom : n + s.size ≤ cap
      · have hr2 := Go.Lib.run_append_room_string (P := P) w t u ty e i ht hu hi hsize g n cap cur hg s hroom (by omega)
        rw [hr2] at hr
        cases hr
        left; rfl
      · have holds : ∀ j u, xs[j]? = some u → w.cell? ((⟨g, 0, none⟩ : Addr).add j) = some u := hown.cells (g := g) rfl
        have hr2 := Go.Lib.run_append_grow_string (P := P) w t u ty e i (.int .u8 0) ht hu hi hz ⟨g, 0, none⟩ n cap xs (by rw [hsize]; simpa using hown.1) holds s (by omega) (by omega) (by rw [hby]; exact growslice_fits (by omega) (by omega))
        rw [hr2] at hr
        cases hr
        right; exact ⟨_, rfl, Nat.le_refl _⟩
  obtain ⟨ao, cap, rfl⟩ := hform
  exact ⟨ao, cap, w', hr, h2, h3, hat⟩
theorem wpList_append_str {P : Program} (w : World) {ops : Array Oper} {rest : List Oper} {o : Oper} {a : Act} {Q : Exit → Act → World → Prop} (hgd : o.guard = none) (sl x : Operand) (t u : TypeId)
    (ho : o.op = .call { callee := .builtin .append, args := #[sl, x], argTypes := #[t, u] })
    (e : TypeId) (i : TypeInfo) (ht : P.underlying t = some (.slice e)) (hu : P.underlying u = some .string) (hi : P.info? e = some i) (hz : i.zero = some (.int .u8 0))
    (hsize : i.size = 1) (hby : i.bytes = 1)
    (v : Value) (n : Nat) (xs : List Value) (hs : a.eval sl = v) (hown : w.ownsRow 0 e 1 v n xs) (s : ByteArray) (hx : a.eval x = .string s) (hbytes : n + s.size ≤ 140737488355328)
    (h : ∀ ao cap w', w'.ownsRow 0 e 1 (.slice ao (n + s.size) cap) (n + s.size) (xs ++ strCells s) → w.grownBy w' v.ownBlock →
      (Value.ownBlock (.slice ao (n + s.size) cap) = v.ownBlock ∨ ∃ H, Value.ownBlock (.slice ao (n + s.size) cap) = some H ∧ w.heap.size ≤ H) → wpList P ops Q rest (a.put o.dst (.slice ao (n + s.size) cap)) w') : wpList P ops Q (o :: rest) a w := by
  refine wpList_plain hgd fun K hK => ?_
  obtain ⟨ao, cap, w', hr, h2, h3, h4⟩ := run_append_str (P := P) w t u o.type e i ht hu hi hz hsize hby v n xs hown s hbytes
  unfold Oper.wp execOp
  simp only [ho, resolve, invoke, builtin, Sem.run_bind, Sem.run_pure, Result.andThen_ok, List.map_toArray, List.map_cons, List.map_nil, hs, hx, hr]
  exact hK _ _ (h ao cap w' h2 h3 h4)
theorem infoU8 : (Tryz.prog.info? 5).map (fun i => (i.zero, i.size, i.bytes)) = some (some (.int .u8 0), 1, 1) := by kernel_rfl
theorem run_text {P : Program} (src dst : TypeId) (hs : P.underlying src = some (.slice 5)) (he : P.underlying 5 = some (.int .u8)) (hd : P.underlying dst = some .string)
    {w : World} {t : ByteArray} {ao : Option Addr} {cap : Nat} (ho : w.ownsRow 0 5 1 (.slice ao t.size cap) t.size (strCells t)) :
    (convert src dst (.slice ao t.size cap)).run P w = .ok (.string t) w := by
  rcases ho.2 with ⟨hv, hn⟩ | ⟨g, cp, cur, hv, _, hg, _, _, _, htk⟩
  · injection hv with hv1 hv2 hv3
    subst hv1
    have ht : t = ⟨#[]⟩ := by
      apply ByteArray.ext
      exact Array.eq_empty_of_size_eq_zero hn
    rw [hn, run_convert_bytes_nil w src 5 hs he 0 _ dst hd, ht]
    rfl
  · cases hv
    have hl : t.data.toList.length = t.size := by simp
    have h := run_convert_bytes_back (P := P) w src dst 5 ⟨g, 0, none⟩ cap t.data.toList hs he hd (fun j hj => by
      have hcell := ho.cells (g := g) rfl j (.int .u8 (t.data.toList[j].toNat : Int)) (by simp only [strCells, List.getElem?_map, List.getElem?_eq_getElem hj]; rfl)
      exact hcell)
    rw [hl] at h
    rw [h]
end Go.Proofs.YtoefibkhlhmlfaaGreat
namespace Go.Proofs.YtoefibkhlhmlfaaGreat
open Go.RowKit
open Go.Lib (strCells strCells_length strCells_oneCell)
abbrev pptr (b : Nat) : Value := .pointer (some ⟨b, 0, none⟩)
def pOne (m : Int) (p : ByteArray × Int) (s : ByteArray) : ByteArray × Int := if p.2 = 0 then (if (p.1.size : Int) + s.size ≤ m then (p.1 ++ s, 0) else (p.1, 3)) else p
def pAll (m : Int) (p : ByteArray × Int) (l : List ByteArray) : ByteArray × Int := l.foldl (pOne m) p
theorem pOne_err {m : Int} {t s : ByteArray} {x : Int} (h : x ≠ 0) : pOne m (t, x) s = (t, x) := if_neg h
theorem pOne_yes {m : Int} {t s : ByteArray} (h : (t.size : Int) + s.size ≤ m) : pOne m (t, 0) s = (t ++ s, 0) := by unfold pOne; rw [if_pos rfl, if_pos h]
theorem pOne_no {m : Int} {t s : ByteArray} (h : ¬ (t.size : Int) + s.size ≤ m) : pOne m (t, 0) s = (t, 3) := by unfold pOne; rw [if_pos rfl, if_neg h]
theorem pAll_err {m : Int} {t : ByteArray} {x : Int} (h : x ≠ 0) : ∀ l, pAll m (t, x) l = (t, x)
  | [] => rfl
  | s :: l => by
    show pAll m (pOne m (t, x) s) l = _
    rw [pOne_err h]
    exact pAll_err h l
theorem pAll_append (m : Int) (p : ByteArray × Int) (l l' : List ByteArray) : pAll m p (l ++ l') = pAll m (pAll m p l) l' := List.foldl_append
theorem pAll_take (m : Int) (p : ByteArray × Int) (l : List ByteArray) (k : Nat) (h : k < l.length) : pAll m p (l.take (k + 1)) = pOne m (pAll m p (l.take k)) l[k] := by
  rw [List.take_succ_eq_append_getElem h, pAll_append]
  rfl
theorem pAll_stop {m : Int} {p : ByteArray × Int} {l : List ByteArray} {k : Nat} {t : ByteArray} {x : Int} (h : pAll m p (l.take k) = (t, x)) (hx : x ≠ 0) : pAll m p l = (t, x) := by
  have e : l = l.take k ++ l.drop k := (List.take_append_drop k l).symm
  rw [e, pAll_append, h, pAll_err hx]
theorem Calls.of_same' {P : Program} {f : FuncId} {args : Array Value} {w : World} {n : Nat} {v : Value}
    (h : Calls P f args (w.drewN n) fun e w' => e = .returned v ∧ w.drewN n = w') : Calls P f args (w.drewN n) fun e w'' => e = .returned v ∧ ∃ m, w'' = w.drewN m :=
  h.mono fun _ _ ⟨he, hm⟩ => ⟨he, n, hm.symm⟩
theorem perr_any {w : World} {b r : Nat} {t : ByteArray} {m x : Int} (h : Pen w b r t m x) : Calls Tryz.prog 75 #[pptr b] w fun e w' => e = .returned (.int .i64 x) ∧ w = w' := by
  obtain ⟨ao, cap, h0, h1, h2, h3, h4, _, _⟩ := h.cells
  go_enter Tryz.func75, Tryz.ntmps75
  go_wp2
  go_ret
  exact ⟨rfl, rfl⟩
theorem plen_any {w : World} {b r : Nat} {t : ByteArray} {m x : Int} (h : Pen w b r t m x) : Calls Tryz.prog 171 #[pptr b] w fun e w' => e = .returned (.int .i64 t.size) ∧ w = w' := by
  obtain ⟨ao, cap, h0, h1, h2, h3, h4, _, _⟩ := h.cells
  go_enter Tryz.func171, Tryz.ntmps171
  go_wp2
  go_ret
  exact ⟨rfl, rfl⟩
theorem perr_q {w : World} {n b r : Nat} {t : ByteArray} {m x : Int} (h : Pen w b r t m x) : Calls Tryz.prog 75 #[pptr b] (w.drewN n) fun e w' => e = .returned (.int .i64 x) ∧ ∃ m, w' = w.drewN m :=
  Calls.of_same' (perr_any (h.keep0 ((Keep.refl _ w).drewN n)))
theorem plen_q {w : World} {n b r : Nat} {t : ByteArray} {m x : Int} (h : Pen w b r t m x) : Calls Tryz.prog 171 #[pptr b] (w.drewN n) fun e w' => e = .returned (.int .i64 t.size) ∧ ∃ m, w' = w.drewN m :=
  Calls.of_same' (plen_any (h.keep0 ((Keep.refl _ w).drewN n)))
theorem pfail_no {w : World} {b r : Nat} {t : ByteArray} {m x : Int} (y : Int) (h : Pen w b r t m x) (hx : x ≠ 0) : Calls Tryz.prog 71 #[pptr b, .int .i64 y] w fun e w' => e = .returned (.tuple #[]) ∧ w = w' := by
  obtain ⟨ao, cap, h0, h1, h2, h3, h4, _, _⟩ := h.cells
  have hx' : (x == 0) = false := by simpa using hx
  go_enter Tryz.func71, Tryz.ntmps71
  go_wp2
  go_end0
  exact ⟨rfl, rfl⟩
theorem pfail_yes {w : World} {b r : Nat} {t : ByteArray} {m : Int} (y : Int) (h : Pen w b r t m 0) : Calls Tryz.prog 71 #[pptr b, .int .i64 y] w fun e w' => e = .returned (.tuple #[]) ∧ Pen w' b r t m y ∧ Keep1 b w w' := by
  obtain ⟨ao, cap, h0, h1, h2, h3, h4, _, _⟩ := h.cells
  go_enter Tryz.func71, Tryz.ntmps71
  go_wp2
  go_end0
  exact ⟨rfl, h.setErr y, (Keep.refl _ _).set1 _ _⟩
def pFail (x y : Int) : Int := if x = 0 then y else x
theorem pfail_any {w : World} {b r : Nat} {t : ByteArray} {m x : Int} (y : Int) (h : Pen w b r t m x) : Calls Tryz.prog 71 #[pptr b, .int .i64 y] w fun e w' => e = .returned (.tuple #[]) ∧ Pen w' b r t m (pFail x y) ∧ Keep1 b w w' := by
  unfold pFail
  by_cases hx : x = 0
  · subst hx
    exact pfail_yes y h
  · rw [if_neg hx]
    refine (pfail_no y h hx).mono ?_
    rintro e w' ⟨rfl, rfl⟩
    exact ⟨rfl, h, Keep.refl _ _⟩
def pEnd (t : ByteArray) (x : Int) : ByteArray := if x = 0 then t else ⟨#[]⟩
theorem pend_any {w : World} {b r : Nat} {t : ByteArray} {m x : Int} (h : Pen w b r t m x) : Calls Tryz.prog 44 #[pptr b] w fun e w' => e = .returned (.tuple #[.string (pEnd t x), .int .i64 x]) ∧ w = w' := by
  obtain ⟨ao, cap, h0, h1, h2, h3, h4, ho, _⟩ := h.cells
  by_cases hx : x = 0
  · subst hx
    have e1 : pEnd t 0 = t := if_pos rfl
    rw [e1]
    have hcv := run_text (P := Tryz.prog) 106 9 Tryz.underlying106 Tryz.underlying5 Tryz.underlying9 ho
    clear ho e1
    go_enter Tryz.func44, Tryz.ntmps44
    go_wp2_with (go_at_call 75; refine (perr_any h).mono ?_; rintro e w' ⟨rfl, rfl⟩)
    go_ret2
    exact ⟨rfl, rfl⟩
  · have e1 : pEnd t x = ⟨#[]⟩ := if_neg hx
    have hx' : (x != 0) = true := by simpa using hx
    rw [e1]
    clear ho e1
    go_enter Tryz.func44, Tryz.ntmps44
    go_wp2_with (go_at_call 75; refine (perr_any h).mono ?_; rintro e w' ⟨rfl, rfl⟩)
    go_ret2
    exact ⟨rfl, rfl⟩
def pMax (m : Int) : Int := if m < 0 then 0 else m
theorem pnew_any (w : World) (m : Int) (hm : m ≤ 9223372036854775807) : Calls Tryz.prog 42 #[.int .i64 m] w fun e w' => e = .returned (pptr w.heap.size) ∧ Pen w' w.heap.size w.heap.size ⟨#[]⟩ (pMax m) 0 ∧ Keep0 w w' := by
  unfold pMax
  by_cases h : m < 0
  · rw [if_pos h]
    go_enter Tryz.func42, Tryz.ntmps42
    go_wp2
    go_ret
    exact ⟨rfl, Pen.new w 0 _ (Int.le_refl _) (by omega), (Keep.refl _ _).alloc _⟩
  · rw [if_neg h]
    go_enter Tryz.func42, Tryz.ntmps42
    go_wp2
    go_ret
    exact ⟨rfl, Pen.new w m _ (by omega) hm, (Keep.refl _ _).alloc _⟩
theorem takes_err {w : World} {b r : Nat} {t : ByteArray} {m x : Int} (n : Int) (h : Pen w b r t m x) (hx : x ≠ 0) : Calls Tryz.prog 144 #[pptr b, .int .i64 n] w fun e w' => e = .returned (.bool false) ∧ ∃ n, w' = w.drewN n := by
  have hx' : (x == 0) = false := by simpa using hx
  go_enter Tryz.func144, Tryz.ntmps144
  go_wp2_with fail
  go_quiet ((go_at_call 75; exact perr_q h))
  go_wp2_with (go_at_call 75; refine (perr_any (h.keep0 ((Keep.refl _ w).drewN nq))).mono ?_; rintro e w' ⟨rfl, rfl⟩)
  go_ret
  exact ⟨rfl, nq, rfl⟩
theorem takes_yes {w : World} {b r : Nat} {t : ByteArray} {m : Int} (n : Int) (h : Pen w b r t m 0) (hn : n ≤ m - t.size) : Calls Tryz.prog 144 #[pptr b, .int .i64 n] w fun e w' => e = .returned (.bool true) ∧ ∃ n, w' = w.drewN n := by
  have lo := h.lo
  have fit := h.fit
  have mx := h.mx
  obtain ⟨ao, cap, h0, h1, h2, h3, h4, ho, _⟩ := h.cells
  clear ho
  have hd : decide (m - t.size < n) = false := by simp; omega
  go_enter Tryz.func144, Tryz.ntmps144
  go_wp2_with fail
  go_quiet ((first | (go_at_call 75; exact perr_q h) | (go_at_call 171; exact plen_q h)))
  go_wp2_with (go_at_call 75; refine (perr_any (h.keep0 ((Keep.refl _ w).drewN nq))).mono ?_; rintro e w' ⟨rfl, rfl⟩)
  go_ret
  exact ⟨rfl, nq, rfl⟩
theorem takes_no {w : World} {b r : Nat} {t : ByteArray} {m : Int} (n : Int) (h : Pen w b r t m 0) (hn : m - t.size < n) : Calls Tryz.prog 144 #[pptr b, .int .i64 n] w fun e w' => e = .returned (.bool false) ∧ Pen w' b r t m 3 ∧ Keep1 b w w' := by
  have lo := h.lo
  have fit := h.fit
  have mx := h.mx
  obtain ⟨ao, cap, h0, h1, h2, h3, h4, ho, _⟩ := h.cells
  clear ho
  go_enter Tryz.func144, Tryz.ntmps144
  go_wp2_with fail
  go_quiet ((first | (go_at_call 75; exact perr_q h) | (go_at_call 171; exact plen_q h)))
  go_wp2_with (first | (go_at_call 71; refine (pfail_yes 3 (h.keep0 ((Keep.refl _ w).drewN nq))).mono ?_; rintro e w1 ⟨rfl, hp, hk⟩) | (go_at_call 75; refine (perr_any hp).mono ?_; rintro e w' ⟨rfl, rfl⟩))
  go_ret
  exact ⟨rfl, hp, ((Keep.refl _ w).drewN nq).trans hk⟩
end Go.Proofs.YtoefibkhlhmlfaaGreat
namespace Go.Proofs.YtoefibkhlhmlfaaGreat
open Go.RowKit
open Go.Lib (strCells strCells_length strCells_oneCell)
def PenAfter (w w' : World) (b r : Nat) (m : Int) (p : ByteArray × Int) : Prop := ∃ r', Pen w' b r' p.1 m p.2 ∧ Keep (two b r) w w' ∧ (r' = r ∨ w.heap.size ≤ r')
theorem pAll_size (m : Int) : ∀ (l : List ByteArray) (p : ByteArray × Int), (pAll m p l).1.size ≤ p.1.size + (l.map ByteArray.size).sum
  | [], p => by simp [pAll]
  | s :: l, p => by
    have h := pAll_size m l (pOne m p s)
    have h1 : (pOne m p s).1.size ≤ p.1.size + s.size := by
      unfold pOne
      split
      · split
        · simp [ByteArray.size_append]
        · simp
      · simp
    show (pAll m (pOne m p s) l).1.size ≤ _
    simp only [List.map_cons, List.sum_cons]
    omega
theorem sum_take_succ (l : List ByteArray) (k : Nat) (h : k < l.length) : ((l.take (k + 1)).map ByteArray.size).sum = ((l.take k).map ByteArray.size).sum + l[k].size := by
  rw [List.take_succ_eq_append_getElem h, List.map_append, List.sum_append]
  rfl
theorem sum_take_le (l : List ByteArray) (k : Nat) : ((l.take k).map ByteArray.size).sum ≤ (l.map ByteArray.size).sum := by
  have e : (l.map ByteArray.size).sum = ((l.take k ++ l.drop k).map ByteArray.size).sum := by rw [List.take_append_drop]
  rw [e, List.map_append, List.sum_append]
  omega
theorem Pen.after {w w3 : World} {b r : Nat} {ao : Option Addr} {n cap : Nat} (hao : (ao = none ∧ r = b) ∨ (ao = some ⟨r, 0, none⟩ ∧ r ≠ b)) (hg : w.grownBy w3 (Value.ownBlock (.slice ao n cap)))
    {v : Value} (h0 : w.cell? ⟨b, 0, none⟩ = some v) (h3 : w.frozen? ⟨b, 0, none⟩ = false) : w3.cell? ⟨b, 0, none⟩ = some v ∧ w3.frozen? ⟨b, 0, none⟩ = false := by
  have hb1 : some b ≠ Value.ownBlock (.slice ao n cap) := by
    rcases hao with ⟨rfl, _⟩ | ⟨rfl, hne⟩
    · simp [Value.ownBlock]
    · simp [Value.ownBlock]; omega
  exact ⟨hg.cell h0 hb1, (World.frozen?_of_block (hg.block b (World.block_lt_of_cell? w _ h0) hb1)).trans h3⟩
set_option maxRecDepth 100000 in
set_option maxHeartbeats 2000000 in
theorem ptext_any {w : World} {b r : Nat} {t : ByteArray} {m x : Int} (h : Pen w b r t m x) (ao : Option Addr) (cap : Nat) (l : List ByteArray)
    (hc : ∀ k (hk : k < l.length), ∃ bb off, ao = some ⟨bb, off, none⟩ ∧ w.cell? ⟨bb, off + k, none⟩ = some (.string l[k]) ∧ bb ≠ b ∧ bb ≠ r)
    (hl : (l.length : Int) ≤ 9223372036854775807) (hfit : (t.size : Int) + (l.map ByteArray.size).sum ≤ 140737488355328 ∨ m ≤ 140737488355328) :
    Calls Tryz.prog 103 #[pptr b, .slice ao l.length cap] w fun e w' => e = .returned (.tuple #[]) ∧ PenAfter w w' b r m (pAll m (t, x) l) := by
  obtain ⟨i0, hi, hz0, hz1, hz2⟩ := info_parts infoU8
  have HC : Hid (∀ k (hk : k < l.length), ∃ bb off, ao = some ⟨bb, off, none⟩ ∧ w.cell? ⟨bb, off + k, none⟩ = some (.string l[k]) ∧ bb ≠ b ∧ bb ≠ r) := hc
  clear hc
  go_enter Tryz.func103, Tryz.ntmps103
  go_wp2_with fail
  go_loopw [8] (fun i wr => ∃ (k r' : Nat) (t' : ByteArray) (x' : Int), k ≤ l.length ∧ i = .int .i64 k ∧ Pen wr b r' t' m x' ∧ pAll m (t, x) (l.take k) = (t', x') ∧ Keep (two b r) w wr ∧ (r' = r ∨ w.heap.size ≤ r')) (fun i _ => l.length - (intOf i).toNat)
  case atStart => exact ⟨0, r, t, x, by omega, rfl, h, rfl, Keep.refl _ _, .inl rfl⟩
  case round =>
    obtain ⟨k, r', t', x', hk, rfl, hp, hall, hkp, hr⟩ := hrel
    by_cases hlt : k < l.length
    · obtain ⟨bb, off, rfl, hcell0, hb1, hb2⟩ := HC.out k hlt
      have hcell : wr.cell? ⟨bb, off + k, none⟩ = some (.string l[k]) := hkp.cell hcell0 (by simp only [two]; omega)
      have hbl := World.block_lt_of_cell? w _ hcell0
      simp only at hbl
      have hstep := pAll_take m (t, x) l k hlt
      rw [hall] at hstep
      have hsz := pAll_size m (l.take k) (t, x)
      rw [hall] at hsz
      have hs1 := sum_take_succ l k hlt
      have hs2 := sum_take_le l (k + 1)
      generalize hsk : l[k] = s at *
      simp only at hsz
      have hse : wr.cell? ⟨bb, off + k, none⟩ = some (.string s) := hcell
      clear hcell hcell0
      by_cases hx : x' = 0
      · subst hx
        by_cases hf : (s.size : Int) ≤ m - t'.size
        · rw [pOne_yes (by omega)] at hstep
          have hfs : t'.size + s.size ≤ 140737488355328 := by have := hp.fit; omega
          have HS : Hid (pAll m (t, x) (l.take (k + 1)) = (t' ++ s, 0)) := hstep
          clear hs1 hs2 hsz hfit hstep hall
          go_wp2_with fail
          refine (takes_yes s.size hp hf).mono ?_
          rintro e w2 ⟨rfl, hw⟩
          have k2 := keepN hw
          have hp2 := hp.keep0 k2
          clear hw
          obtain ⟨ao2, cap2, g0, g1, g2, g3, g4, go, gao⟩ := hp2.cells
          go_wp2_with (at_builtin; refine wpList_append_str _ rfl (.tmp 21) (.tmp 22) 106 9 rfl 5 i0 Tryz.underlying106 Tryz.underlying9 hi hz0 hz1 hz2 _ _ _ rfl go s rfl hfs ?_)
          intro ao3 cap3 w3 ho3 hg3 hat3
          have hput := hp2.put (t' := t' ++ s) (cap := cap2) gao hg3 (by rw [ByteArray.size_append, strCells_append]; exact ho3) (by rw [ByteArray.size_append]; exact hat3) (by rw [ByteArray.size_append]; omega)
          rw [ByteArray.size_append] at hput
          obtain ⟨r3, hp3, k3, hr3⟩ := hput
          have hs2' := k2.size
          have hlast := Pen.after gao hg3 g0 g3
          obtain ⟨c3, f3⟩ := hlast
          clear ho3 hg3 hat3 go gao g0 g1 g2 g3 g4
          go_wp2
          go_roundw
          case rel => exact ⟨k + 1, r3, _, _, by omega, by go_num, hp3, HS.out, (hkp.step0 k2).step k3 (fun i hi' hh => by simp only [two] at hh ⊢; omega), by have := hkp.size; omega⟩
          case measure => simp [intOf]; omega
        · rw [pOne_no (by omega)] at hstep
          have HE : Hid (pAll m (t, x) l = (t', 3)) := pAll_stop hstep (by decide)
          clear hs1 hs2 hsz hfit hstep hall
          go_wp2_with fail
          refine (takes_no s.size hp (by omega)).mono ?_
          rintro e w2 ⟨rfl, hp2, k2⟩
          go_wp2
          refine bodyPost_ret (results_none rfl _ _ _) rfl ?_
          refine ⟨rfl, ?_⟩
          rw [HE.out]
          exact ⟨r', hp2, hkp.step k2 (fun i _ hh => .inl hh), hr⟩
      · rw [pOne_err hx] at hstep
        have HE : Hid (pAll m (t, x) l = (t', x')) := pAll_stop hstep hx
        clear hs1 hs2 hsz hfit hstep hall
        go_wp2_with fail
        refine (takes_err s.size hp hx).mono ?_
        rintro e w2 ⟨rfl, hw⟩
        have k2 := keepN hw
        clear hw
        go_wp2
        refine bodyPost_ret (results_none rfl _ _ _) rfl ?_
        refine ⟨rfl, ?_⟩
        rw [HE.out]
        exact ⟨r', hp.keep0 k2, hkp.step0 k2, hr⟩
    · rw [List.take_of_length_le (by omega)] at hall
      have HE : Hid (pAll m (t, x) l = (t', x')) := hall
      clear hall
      go_wp2
      go_end0
      refine ⟨rfl, ?_⟩
      rw [HE.out]
      exact ⟨r', hp, hkp, hr⟩
def one (c : UInt8) : ByteArray := ⟨#[c]⟩
theorem one_size (c : UInt8) : (one c).size = 1 := rfl
theorem one_cells (c : UInt8) : strCells (one c) = [.int .u8 c.toNat] := rfl
theorem sum_ones (l : List UInt8) : ((l.map one).map ByteArray.size).sum = l.length := by
  induction l with
  | nil => rfl
  | cons c l ih => simp only [List.map_cons, List.sum_cons, ih, one_size, List.length_cons]; omega
set_option maxRecDepth 100000 in
set_option maxHeartbeats 2000000 in
theorem pbyte_any {w : World} {b r : Nat} {t : ByteArray} {m x : Int} (h : Pen w b r t m x) (ao : Option Addr) (cap : Nat) (l : List UInt8)
    (hc : ∀ k (hk : k < l.length), ∃ bb off, ao = some ⟨bb, off, none⟩ ∧ w.cell? ⟨bb, off + k, none⟩ = some (.int .u8 (l[k].toNat : Int)) ∧ bb ≠ b ∧ bb ≠ r)
    (hl : (l.length : Int) ≤ 9223372036854775807) (hfit : (t.size : Int) + l.length ≤ 140737488355328 ∨ m ≤ 140737488355328) :
    Calls Tryz.prog 173 #[pptr b, .slice ao l.length cap] w fun e w' => e = .returned (.tuple #[]) ∧ PenAfter w w' b r m (pAll m (t, x) (l.map one)) := by
  obtain ⟨i0, hi, hz0, hz1, hz2⟩ := info_parts infoU8
  have HC : Hid (∀ k (hk : k < l.length), ∃ bb off, ao = some ⟨bb, off, none⟩ ∧ w.cell? ⟨bb, off + k, none⟩ = some (.int .u8 (l[k].toNat : Int)) ∧ bb ≠ b ∧ bb ≠ r) := hc
  clear hc
  go_enter Tryz.func173, Tryz.ntmps173
  go_wp2_with fail
  go_loopw [8] (fun i wr => ∃ (k r' : Nat) (t' : ByteArray) (x' : Int), k ≤ l.length ∧ i = .int .i64 k ∧ Pen wr b r' t' m x' ∧ pAll m (t, x) ((l.map one).take k) = (t', x') ∧ Keep (two b r) w wr ∧ (r' = r ∨ w.heap.size ≤ r')) (fun i _ => l.length - (intOf i).toNat)
  case atStart => exact ⟨0, r, t, x, by omega, rfl, h, rfl, Keep.refl _ _, .inl rfl⟩
  case round =>
    obtain ⟨k, r', t', x', hk, rfl, hp, hall, hkp, hr⟩ := hrel
    by_cases hlt : k < l.length
    · obtain ⟨bb, off, rfl, hcell0, hb1, hb2⟩ := HC.out k hlt
      have hcell : wr.cell? ⟨bb, off + k, none⟩ = some (.int .u8 (l[k].toNat : Int)) := hkp.cell hcell0 (by simp only [two]; omega)
      have hbl := World.block_lt_of_cell? w _ hcell0
      simp only at hbl
      have hstep := pAll_take m (t, x) (l.map one) k (by simpa using hlt)
      rw [hall, List.getElem_map] at hstep
      have hsz := pAll_size m ((l.map one).take k) (t, x)
      rw [hall, ← List.map_take, sum_ones] at hsz
      have hs1 : (l.take k).length ≤ k := by simp; omega
      generalize hsk : l[k] = c at *
      simp only at hsz
      have hse : wr.cell? ⟨bb, off + k, none⟩ = some (.int .u8 (c.toNat : Int)) := hcell
      clear hcell hcell0
      by_cases hx : x' = 0
      · subst hx
        by_cases hf : (1 : Int) ≤ m - t'.size
        · rw [pOne_yes (by rw [one_size]; omega)] at hstep
          have hfs : t'.size + 1 ≤ 140737488355328 := by have := hp.fit; omega
          have HS : Hid (pAll m (t, x) ((l.map one).take (k + 1)) = (t' ++ one c, 0)) := hstep
          clear hs1 hsz hfit hstep hall
          go_wp2_with fail
          refine (takes_yes 1 hp hf).mono ?_
          rintro e w2 ⟨rfl, hw⟩
          have k2 := keepN hw
          have hp2 := hp.keep0 k2
          clear hw
          have kA := (Keep.refl (fun _ => False) w2).alloc (.cells #[.int .u8 (c.toNat : Int)] 5)
          have hpA := hp2.keep0 kA
          obtain ⟨ao2, cap2, g0, g1, g2, g3, g4, go, gao⟩ := hp2.cells
          have goA := go.alloc (.cells #[.int .u8 (c.toNat : Int)] 5)
          have gA0 := kA.cell g0 (fun f => f)
          have gA3 : (w2.alloc (.cells #[.int .u8 (c.toNat : Int)] 5)).frozen? ⟨b, 0, none⟩ = false := (World.frozen?_of_block (kA.block b hp2.lt (fun f => f))).trans g3
          go_wp2_with (at_builtin; refine wpList_append_lies _ rfl (.tmp 19) (.tmp 21) 106 rfl 0 5 i0 (.int .u8 0) 1 1 Tryz.underlying106 hi hz0 hz1 hz2 rfl (by decide) _ _ _ rfl goA ⟨w2.heap.size, 0, none⟩ 1 1 [.int .u8 (c.toNat : Int)] rfl rfl (cell_one_new _ _ _) ?c1 (by decide) ?c2 ?c3 (Nat.zero_le _) _ rfl ?_)
          case c1 => intro u hu; simp at hu; subst hu; rfl
          case c2 => unfold maxLen; omega
          case c3 => omega
          intro g cap3 w3 ho3 hg3 hat3 hlt3
          have hput := hpA.put (t' := t' ++ one c) (cap := cap2) (ao' := some ⟨g, 0, none⟩) (cap' := cap3) gao hg3 (by rw [ByteArray.size_append, strCells_append]; exact ho3) (by rcases hat3 with h | h; exact .inl h.symm; exact .inr ⟨g, rfl, by simp [h]⟩) (by rw [ByteArray.size_append, one_size]; omega)
          rw [ByteArray.size_append, one_size] at hput
          obtain ⟨r3, hp3, k3, hr3⟩ := hput
          have hs2' := k2.size
          have hsA := kA.size
          obtain ⟨c3, f3⟩ := Pen.after gao hg3 gA0 gA3
          clear ho3 hg3 hat3 go gao g0 g1 g2 g3 g4 goA gA0 gA3 hlt3
          go_wp2
          go_roundw
          case rel => exact ⟨k + 1, r3, _, _, by omega, by go_num, hp3, HS.out, ((hkp.step0 k2).step0 kA).step k3 (fun i hi' hh => by simp only [two] at hh ⊢; omega), by have := hkp.size; omega⟩
          case measure => simp [intOf]; omega
        · rw [pOne_no (by rw [one_size]; omega)] at hstep
          have HE : Hid (pAll m (t, x) (l.map one) = (t', 3)) := pAll_stop hstep (by decide)
          clear hs1 hsz hfit hstep hall
          go_wp2_with fail
          refine (takes_no 1 hp (by omega)).mono ?_
          rintro e w2 ⟨rfl, hp2, k2⟩
          go_wp2
          refine bodyPost_ret (results_none rfl _ _ _) rfl ?_
          refine ⟨rfl, ?_⟩
          rw [HE.out]
          exact ⟨r', hp2, hkp.step k2 (fun i _ hh => .inl hh), hr⟩
      · rw [pOne_err hx] at hstep
        have HE : Hid (pAll m (t, x) (l.map one) = (t', x')) := pAll_stop hstep hx
        clear hs1 hsz hfit hstep hall
        go_wp2_with fail
        refine (takes_err 1 hp hx).mono ?_
        rintro e w2 ⟨rfl, hw⟩
        have k2 := keepN hw
        clear hw
        go_wp2
        refine bodyPost_ret (results_none rfl _ _ _) rfl ?_
        refine ⟨rfl, ?_⟩
        rw [HE.out]
        exact ⟨r', hp.keep0 k2, hkp.step0 k2, hr⟩
    · rw [List.take_of_length_le (by simp; omega)] at hall
      have HE : Hid (pAll m (t, x) (l.map one) = (t', x')) := hall
      clear hall
      go_wp2
      go_end0
      refine ⟨rfl, ?_⟩
      rw [HE.out]
      exact ⟨r', hp, hkp, hr⟩
end Go.Proofs.YtoefibkhlhmlfaaGreat
namespace Go.Proofs.YtoefibkhlhmlfaaGreat
open Go.RowKit
structure RPen (w : World) (b : Nat) (t : ByteArray) (m e : Int) : Prop where
  blk : ∃ ty, w.heap[b]? = some (.cells #[.string t, .int .i64 m, .int .i64 e] ty)
theorem RPen.lt {w : World} {b : Nat} {t : ByteArray} {m e : Int} (h : RPen w b t m e) : b < w.heap.size := by
  obtain ⟨ty, hk⟩ := h.blk
  exact (Array.getElem?_eq_some_iff.mp hk).1
theorem RPen.cells {w : World} {b : Nat} {t : ByteArray} {m e : Int} (h : RPen w b t m e) :
    w.cell? ⟨b, 0, none⟩ = some (.string t) ∧ w.cell? ⟨b, 1, none⟩ = some (.int .i64 m) ∧ w.cell? ⟨b, 2, none⟩ = some (.int .i64 e) ∧ w.frozen? ⟨b, 0, none⟩ = false ∧ w.frozen? ⟨b, 2, none⟩ = false := by
  obtain ⟨ty, hk⟩ := h.blk
  simp [World.cell?, World.frozen?, hk]
theorem RPen.keep {R : Nat → Prop} {w w' : World} {b : Nat} {t : ByteArray} {m e : Int} (h : RPen w b t m e) (k : Keep R w w') (hn : ¬ R b) : RPen w' b t m e := by
  obtain ⟨ty, hk⟩ := h.blk
  exact ⟨ty, by rw [k.block b h.lt hn]; exact hk⟩
theorem RPen.keep0 {w w' : World} {b : Nat} {t : ByteArray} {m e : Int} (h : RPen w b t m e) (k : Keep0 w w') : RPen w' b t m e := h.keep k (fun f => f)
theorem RPen.setErr {w : World} {b : Nat} {t : ByteArray} {m e : Int} (h : RPen w b t m e) (e' : Int) : RPen (w.setCell ⟨b, 2, none⟩ (.int .i64 e')) b t m e' := by
  obtain ⟨ty, hk⟩ := h.blk
  exact ⟨ty, by rw [heap_setCell_at hk]; rfl⟩
theorem RPen.setText {w : World} {b : Nat} {t : ByteArray} {m e : Int} (h : RPen w b t m e) (t' : ByteArray) : RPen (w.setCell ⟨b, 0, none⟩ (.string t')) b t' m e := by
  obtain ⟨ty, hk⟩ := h.blk
  exact ⟨ty, by rw [heap_setCell_at hk]; rfl⟩
theorem RPen.new (w : World) (m : Int) (ty : TypeId) : RPen (w.alloc (.cells #[.string ⟨#[]⟩, .int .i64 m, .int .i64 0] ty)) w.heap.size ⟨#[]⟩ m 0 := ⟨ty, (MapKept.heap_alloc w _).1⟩
theorem rpnew_any (w : World) (m : Int) : Calls Tryz.prog 117 #[.int .i64 m] w fun e w' => e = .returned (pptr w.heap.size) ∧ RPen w' w.heap.size ⟨#[]⟩ (pMax m) 0 ∧ Keep0 w w' := by
  unfold pMax
  by_cases h : m < 0
  · rw [if_pos h]
    go_enter Tryz.func117, Tryz.ntmps117
    go_wp2
    go_ret
    exact ⟨rfl, RPen.new w 0 _, (Keep.refl _ _).alloc _⟩
  · rw [if_neg h]
    go_enter Tryz.func117, Tryz.ntmps117
    go_wp2
    go_ret
    exact ⟨rfl, RPen.new w m _, (Keep.refl _ _).alloc _⟩
theorem rptext_err {w : World} {b : Nat} {t : ByteArray} {m x : Int} (s : ByteArray) (h : RPen w b t m x) (hx : x ≠ 0) : Calls Tryz.prog 181 #[pptr b, .string s] w fun e w' => e = .returned (.tuple #[]) ∧ w = w' := by
  obtain ⟨h0, h1, h2, h3, h4⟩ := h.cells
  have hx' : (x != 0) = true := by simpa using hx
  go_enter Tryz.func181, Tryz.ntmps181
  go_wp2
  refine bodyPost_ret (results_none rfl _ _ _) rfl ?_
  exact ⟨rfl, rfl⟩
theorem rptext_no {w : World} {b : Nat} {t : ByteArray} {m : Int} (s : ByteArray) (h : RPen w b t m 0) (hn : m < (t.size : Int) + s.size) (ht : t.size + s.size ≤ 4611686018427387904) : Calls Tryz.prog 181 #[pptr b, .string s] w fun e w' => e = .returned (.tuple #[]) ∧ RPen w' b t m 3 ∧ Keep1 b w w' := by
  obtain ⟨h0, h1, h2, h3, h4⟩ := h.cells
  go_enter Tryz.func181, Tryz.ntmps181
  go_wp2
  go_quiet (fail)
  go_wp2
  refine bodyPost_ret (results_none rfl _ _ _) rfl ?_
  exact ⟨rfl, (h.keep0 ((Keep.refl _ w).drewN nq)).setErr 3, ((Keep.refl _ w).drewN nq).set1 _ _⟩
theorem rptext_yes {w : World} {b : Nat} {t : ByteArray} {m : Int} (s : ByteArray) (h : RPen w b t m 0) (hn : (t.size : Int) + s.size ≤ m) (ht : t.size + s.size ≤ 4611686018427387904) : Calls Tryz.prog 181 #[pptr b, .string s] w fun e w' => e = .returned (.tuple #[]) ∧ RPen w' b (t ++ s) m 0 ∧ Keep1 b w w' := by
  obtain ⟨h0, h1, h2, h3, h4⟩ := h.cells
  have hd : decide (m < (t.size : Int) + s.size) = false := by simp; omega
  go_enter Tryz.func181, Tryz.ntmps181
  go_wp2
  go_quiet (fail)
  go_wp2
  go_end0
  exact ⟨rfl, (h.keep0 ((Keep.refl _ w).drewN nq)).setText _, ((Keep.refl _ w).drewN nq).set1 _ _⟩
theorem rptext_any {w : World} {b : Nat} {t : ByteArray} {m x : Int} (s : ByteArray) (h : RPen w b t m x) (ht : t.size + s.size ≤ 4611686018427387904) : Calls Tryz.prog 181 #[pptr b, .string s] w fun e w' => e = .returned (.tuple #[]) ∧ RPen w' b (pOne m (t, x) s).1 m (pOne m (t, x) s).2 ∧ Keep1 b w w' := by
  by_cases hx : x = 0
  · subst hx
    by_cases hf : (t.size : Int) + s.size ≤ m
    · rw [pOne_yes hf]
      exact rptext_yes s h hf ht
    · have hf' : m < (t.size : Int) + s.size := by omega
      rw [pOne_no hf]
      exact rptext_no s h hf' ht
  · rw [pOne_err hx]
    refine (rptext_err s h hx).mono ?_
    rintro e w' ⟨rfl, rfl⟩
    exact ⟨rfl, h, Keep.refl _ _⟩
theorem rpbyte_any {w : World} {b : Nat} {t : ByteArray} {m x : Int} (c : UInt8) (h : RPen w b t m x) (ht : t.size ≤ 4611686018427387903) : Calls Tryz.prog 180 #[pptr b, .int .u8 (c.toNat : Int)] w fun e w' => e = .returned (.tuple #[]) ∧ RPen w' b (pOne m (t, x) (one c)).1 m (pOne m (t, x) (one c)).2 ∧ Keep1 b w w' := by
  have kA := (Keep.refl (fun k => k = b) w).alloc (.cells #[.int .u8 (c.toNat : Int)] 5)
  have hA := h.keep0 ((Keep.refl (fun _ => False) w).alloc (.cells #[.int .u8 (c.toNat : Int)] 5))
  have hcv := run_convert_bytes_back (P := Tryz.prog) (w.alloc (.cells #[.int .u8 (c.toNat : Int)] 5)) 106 9 5 ⟨w.heap.size, 0, none⟩ 1 [c] Tryz.underlying106 Tryz.underlying5 Tryz.underlying9 (fun j hj => by
    obtain rfl : j = 0 := by simp at hj; omega
    rw [add_plain]
    exact cell_alloc w _ rfl)
  have hcv' : (convert 106 9 (.slice (some ⟨w.heap.size, 0, none⟩) 1 1)).run Tryz.prog (w.alloc (.cells #[.int .u8 (c.toNat : Int)] 5)) = .ok (.string (one c)) (w.alloc (.cells #[.int .u8 (c.toNat : Int)] 5)) := hcv
  clear hcv
  go_enter Tryz.func180, Tryz.ntmps180
  go_wp2_with (go_at_call 181; refine (rptext_any (one c) hA (by rw [one_size]; omega)).mono ?_; rintro e w1 ⟨rfl, h1, k1⟩)
  go_end0
  exact ⟨rfl, h1, kA.trans k1⟩
theorem rpfail_any {w : World} {b : Nat} {t : ByteArray} {m x : Int} (y : Int) (h : RPen w b t m x) : Calls Tryz.prog 154 #[pptr b, .int .i64 y] w fun e w' => e = .returned (.tuple #[]) ∧ RPen w' b t m (pFail x y) ∧ Keep1 b w w' := by
  obtain ⟨h0, h1, h2, h3, h4⟩ := h.cells
  unfold pFail
  by_cases hx : x = 0
  · subst hx
    rw [if_pos rfl]
    go_enter Tryz.func154, Tryz.ntmps154
    go_wp2
    go_end0
    exact ⟨rfl, h.setErr y, (Keep.refl _ _).set1 _ _⟩
  · rw [if_neg hx]
    have hx' : (x == 0) = false := by simpa using hx
    go_enter Tryz.func154, Tryz.ntmps154
    go_wp2
    go_end0
    exact ⟨rfl, h, Keep.refl _ _⟩
theorem rpend_any {w : World} {b : Nat} {t : ByteArray} {m x : Int} (h : RPen w b t m x) : Calls Tryz.prog 119 #[pptr b] w fun e w' => e = .returned (.tuple #[.string (pEnd t x), .int .i64 x]) ∧ ∃ n, w' = w.drewN n := by
  obtain ⟨h0, h1, h2, h3, h4⟩ := h.cells
  by_cases hx : x = 0
  · subst hx
    have e1 : pEnd t 0 = t := if_pos rfl
    rw [e1]
    go_enter Tryz.func119, Tryz.ntmps119
    go_wp2
    go_ret2
    exact ⟨rfl, 0, rfl⟩
  · have e1 : pEnd t x = ⟨#[]⟩ := if_neg hx
    have hx' : (x != 0) = true := by simpa using hx
    rw [e1]
    go_enter Tryz.func119, Tryz.ntmps119
    go_wp2
    go_quiet (fail)
    go_wp2
    go_ret2
    exact ⟨rfl, nq, rfl⟩
end Go.Proofs.YtoefibkhlhmlfaaGreat
