/-
  Contracts of strings.Builder's WriteString and String, of a builder that the call itself has made.
  Conditions: what it holds takes at most 2^47 bytes.
-/
import Derived.Test.YtaleennijfefnaaGreatCursor
import Derived.Shelf.Strings.Builder1
namespace Go.Proofs.YtaleennijfefnaaGreat
open Go.RowKit Go.Shelf

/-- A builder in block b that holds the text t; its row lies at B or above. -/
def Bld (w : World) (B b : Nat) (t : ByteArray) : Prop := Lib.IsBuilder 60 5 B b (Lib.strCells t) w

def bRen : Ren := ⟨fun | 169 => 25 | n => n, fun | 70 => 57 | 9 => 9 | 72 => 60 | 37 => 58 | 127 => 106 | 3 => 3 | 5 => 5 | n => n, fun n => n⟩
theorem bLays : Lays.n169 Tryz.prog bRen := {
  mixed := by kernel_rfl
  f169 := Tryz.func25.trans (congrArg some (by kernel_rfl))
  t0 := Tryz.underlying0
  a0 := Tryz.isAgg0
  z0 := Tryz.sizeOf0
  v0 := Tryz.zeroValue0
  t3 := Tryz.underlying3
  a3 := Tryz.isAgg3
  z3 := Tryz.sizeOf3
  v3 := Tryz.zeroValue3
  t9 := Tryz.underlying9
  a9 := Tryz.isAgg9
  z9 := Tryz.sizeOf9
  v9 := Tryz.zeroValue9
  t37 := Tryz.underlying58
  a37 := Tryz.isAgg58
  z37 := Tryz.sizeOf58
  v37 := Tryz.zeroValue58
  t70 := Tryz.underlying57
  a70 := Tryz.isAgg57
  z70 := Tryz.sizeOf57
  v70 := Tryz.zeroValue57
  t72 := Tryz.underlying60
  a72 := Tryz.isAgg60
  z72 := Tryz.sizeOf60
  v72 := Tryz.zeroValue60
  t127 := Tryz.underlying106
  a127 := Tryz.isAgg106
  z127 := Tryz.sizeOf106
  v127 := Tryz.zeroValue106 }
theorem bExtra : Builder.Extra Tryz.prog bRen := {
  sizeBuilder := by kernel_rfl
  liesBuilder := by kernel_rfl
  t5 := Tryz.underlying5
  a5 := Tryz.isAgg5
  z5 := Tryz.sizeOf5
  v5 := Tryz.zeroValue5
  infoByte := by kernel_rfl
  cellsByte := by kernel_rfl
  sizeByte := by kernel_rfl
  neB5 := by decide }

theorem cells_text (t : ByteArray) : Lib.strCells t = Lib.byteCells t.data.toList := rfl
theorem bstring_any {w : World} {B b : Nat} {t : ByteArray} (h : Bld w B b t) (hB : B ≤ w.heap.size) :
    Calls Tryz.prog 25 #[ptr b] w fun e w' => e = .returned (.string t) ∧ KeepFrom B w w' := by
  unfold Bld at h
  rw [cells_text] at h
  refine (Any.Builder_String_any bLays bExtra B b t.data.toList w h hB).mono ?_
  rintro e w' ⟨rfl, k⟩
  exact ⟨rfl, Keep.ofBelow k⟩

/-! ### writing -/
set_option maxRecDepth 100000 in
theorem bcheck_used {w : World} {b : Nat} (h : w.cell? ⟨b, 0, none⟩ = some (ptr b)) :
    Calls Tryz.prog 44 #[ptr b] w fun e w' => e = .returned (.tuple #[]) ∧ w' = w := by
  obtain ⟨j, hj, _⟩ := Option.map_eq_some_iff.1 bExtra.sizeBuilder
  have q := Lib.run_neq_ptr_same (P := Tryz.prog) w ⟨b, 0, none⟩ Tryz.underlying57 hj
  go_enter Tryz.func44, Tryz.ntmps44
  go_wp2
  go_end0
  exact ⟨rfl, rfl⟩
set_option maxRecDepth 100000 in
theorem bcheck_new {w : World} {b : Nat} (h : w.cell? ⟨b, 0, none⟩ = some (.pointer none)) (hs : w.shape? b = some (60, 2)) (hf : w.frozen? ⟨b, 0, none⟩ = false) :
    Calls Tryz.prog 44 #[ptr b] w fun e w' => e = .returned (.tuple #[]) ∧ w' = w.setCell ⟨b, 0, none⟩ (ptr b) := by
  obtain ⟨j, hj, hz⟩ := Option.map_eq_some_iff.1 bExtra.sizeBuilder
  have q1 := Lib.run_to_unsafe (P := Tryz.prog) w ⟨b, 0, none⟩ Tryz.underlying57 Tryz.underlying132 hj (by rw [hz]; decide) hs (Nat.zero_lt_succ 1)
  have q2 := Lib.run_from_unsafe (P := Tryz.prog) w ⟨b, 0, none⟩ Tryz.underlying132 Tryz.underlying57 hj hs bExtra.liesBuilder
  go_enter Tryz.func44, Tryz.ntmps44
  go_wp2
  rw [run_callFunc_extern Tryz.func70 (by kernel_rfl) (by kernel_rfl) (by kernel_rfl) (e := Extern.AbiNoEscape.same) (by kernel_rfl)]
  rw [Lib.run_noEscape]
  simp only [Result.andThen]
  rw [Oper.upon_value]
  go_wp2
  go_end0
  exact ⟨rfl, rfl⟩
theorem bcheck_any {w : World} {B b : Nat} {t : ByteArray} (h : Bld w B b t) :
    Calls Tryz.prog 44 #[ptr b] w fun e w' => e = .returned (.tuple #[]) ∧ Lib.BuilderAt 60 5 B b (ptr b) (Lib.strCells t) w' ∧ KeepFrom B w w' := by
  rcases h with h | h
  · refine (bcheck_new h.cell0 h.shape h.frozen0).mono ?_
    rintro e w' ⟨rfl, rfl⟩
    exact ⟨rfl, h.used _, (Keep.refl _ w).setCell (fun _ => h.1) _⟩
  · refine (bcheck_used h.cell0).mono ?_
    rintro e w' ⟨rfl, rfl⟩
    exact ⟨rfl, h, Keep.refl _ _⟩
theorem Keep.bGrown {w w' : World} {B : Nat} {row : Option Nat} (g : w.grownBy w' row) (h : ∀ k, row = some k → B ≤ k) : KeepFrom B w w' :=
  ⟨g.os, g.tape, g.output, g.size, fun k hk hn => g.block k hk (fun e => hn (h k e.symm))⟩
theorem cells_app (s t : ByteArray) : Lib.strCells s ++ Lib.strCells t = Lib.strCells (s ++ t) := by
  unfold Lib.strCells
  rw [ByteArray.data_append, Array.toList_append, List.map_append]
set_option maxRecDepth 100000 in
theorem bwrite_any {w : World} {B b : Nat} {t : ByteArray} (h : Bld w B b t) (hB : B ≤ w.heap.size) (s : ByteArray) (hl : t.size + s.size ≤ 140737488355328) :
    Calls Tryz.prog 24 #[ptr b, .string s] w fun e w' => e = .returned (.tuple #[.int .i64 s.size, .nilIface]) ∧ Bld w' B b (t ++ s) ∧ KeepFrom B w w' := by
  obtain ⟨i0, hi, z0, z1, z2⟩ := info_parts bExtra.infoByte
  go_enter Tryz.func24, Tryz.ntmps24
  go_wp2_with fail
  refine (bcheck_any h).mono ?_
  rintro e w1 ⟨rfl, h1, k1⟩
  obtain ⟨hb, v, hv, ho, hne⟩ := h1
  have c0 : w1.cell? ⟨b, 0, none⟩ = some (ptr b) := by rw [Lib.cell_of_heap hv]; rfl
  have c1 : w1.cell? ⟨b, 1, none⟩ = some v := by rw [Lib.cell_of_heap hv]; rfl
  have hn : (Lib.strCells t).length = t.size := Lib.strCells_length t
  go_wp2_with (at_builtin; refine Lib.wpList_append_own_string _ rfl _ _ 58 9 rfl B 5 i0 Tryz.underlying58 Tryz.underlying9 hi z0 z1 z2 _ _ _ rfl ho s rfl ?c3 ?c4 ?c5 ?_)
  case c3 => rw [hn]; unfold maxLen; omega
  case c4 => rw [hn]; omega
  case c5 => have := k1.size; omega
  intro v' w2 ho' hg _
  have hlt : b < w1.heap.size := (Array.getElem?_eq_some_iff.1 hv).1
  have hv2 : w2.heap[b]? = some (.cells #[ptr b, v] 60 (0, 0)) := (hg.block b hlt (fun e => hne e.symm)).trans hv
  have d0 : w2.cell? ⟨b, 0, none⟩ = some (ptr b) := by rw [Lib.cell_of_heap hv2]; rfl
  have d1 : w2.cell? ⟨b, 1, none⟩ = some v := by rw [Lib.cell_of_heap hv2]; rfl
  have d2 : w2.frozen? ⟨b, 1, none⟩ = false := Lib.frozen_of_heap hv2 1
  obtain ⟨ao, n', cap, rfl⟩ : ∃ ao n' cap, v' = .slice ao n' cap := by
    rcases ho'.2 with ⟨e, _⟩ | ⟨_, _, _, e, _⟩
    · exact ⟨_, _, _, e⟩
    · exact ⟨_, _, _, e⟩
  have K2 : KeepFrom B w1 w2 := Keep.bGrown hg (fun k hk => (ho.lt k hk).1)
  go_wp2
  go_ret2
  refine ⟨rfl, Or.inr ?_, ((k1.trans K2).setCell (fun _ => hb) _)⟩
  rw [← cells_app]
  exact Lib.BuilderAt.put hb hv2 (by simpa [Lib.strCells_length] using ho') bExtra.neB5
theorem Bld.new (w : World) : Bld (w.alloc (.cells #[.pointer none, .slice none 0 0] 60)) w.heap.size w.heap.size ⟨#[]⟩ := Lib.fresh_isBuilder _ _ w
theorem bat_keep {R : Nat → Prop} {w w' : World} {B b : Nat} {p : Value} {xs : List Value} (h : Lib.BuilderAt 60 5 B b p xs w) (K : Keep R w w') (hn : ∀ k, B ≤ k → ¬ R k) : Lib.BuilderAt 60 5 B b p xs w' := by
  obtain ⟨hb, v, hv, ho, hne⟩ := h
  refine ⟨hb, v, (K.block b (Array.getElem?_eq_some_iff.1 hv).1 (hn b hb)).trans hv, ⟨ho.1, ?_⟩, hne⟩
  rcases ho.2 with h0 | ⟨g, cap, cur, e1, hg, hh, rest⟩
  · exact .inl h0
  · exact .inr ⟨g, cap, cur, e1, hg, (K.block g (Array.getElem?_eq_some_iff.1 hh).1 (hn g hg)).trans hh, rest⟩
theorem Bld.keep {R : Nat → Prop} {w w' : World} {B b : Nat} {t : ByteArray} (h : Bld w B b t) (K : Keep R w w') (hn : ∀ k, B ≤ k → ¬ R k) : Bld w' B b t := by
  rcases h with h | h
  · exact .inl (bat_keep h K hn)
  · exact .inr (bat_keep h K hn)
theorem Bld.lt {w : World} {B b : Nat} {t : ByteArray} (h : Bld w B b t) : b < w.heap.size := by
  rcases h with h | h
  · exact h.lt
  · exact h.lt
end Go.Proofs.YtaleennijfefnaaGreat
