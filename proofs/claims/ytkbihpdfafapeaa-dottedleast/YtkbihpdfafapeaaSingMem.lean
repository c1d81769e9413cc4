/-
  A slice of slices of one entry each, which the call makes, one append at a time.
  Conditions: at most 100,000 of them.
-/
import Derived.Test.YtkbihpdfafapeaaDotMem
import Derived.Test.YtkbihpdfafapeaaRefVec4
import Derived.Maps.AppendAt
namespace Go.Proofs.Ytkbihpdfafapeaa
open Go.RowKit

def sOf (b : Nat) : Value := .slice (some ⟨b, 0, none⟩) 1 1
/-- v owns a row of slices of one entry each: the entries l. -/
def Sing (w : World) (B : Nat) (v : Value) (l : List En) : Prop := ∃ bs : List Nat, bs.length = l.length ∧ w.ownsRow B 22 1 v l.length (bs.map sOf) ∧ (∀ (i b : Nat) (x : En), bs[i]? = some b → l[i]? = some x → EnsAt w (some ⟨b, 0, none⟩) [x]) ∧ ∀ b ∈ bs, v.ownBlock ≠ some b
theorem Sing.new (w : World) (B : Nat) : Sing w B (.slice none 0 0) [] := ⟨[], rfl, ⟨rfl, .inl ⟨rfl, rfl⟩⟩, (fun i b x h => by cases h), (fun b h => by cases h)⟩
theorem Sing.keep0 {w w' : World} {B : Nat} {v : Value} {l : List En} (h : Sing w B v l) (K : Keep0 w w') : Sing w' B v l := by
  obtain ⟨bs, h1, h2, h3, h4⟩ := h
  exact ⟨bs, h1, rowE_keep h2 K (fun _ _ f => f), fun i b x hb hx => (h3 i b x hb hx).keep0 K, h4⟩
theorem Sing.lt {w : World} {B : Nat} {v : Value} {l : List En} (h : Sing w B v l) : ∀ k, v.ownBlock = some k → B ≤ k ∧ k < w.heap.size := by
  obtain ⟨bs, h1, h2, h3, h4⟩ := h
  exact h2.lt
theorem Sing.shape {w : World} {B : Nat} {v : Value} {l : List En} (h : Sing w B v l) : ∃ ao cap, v = .slice ao l.length cap ∧ VecsAt w ao (singles l) := by
  obtain ⟨bs, h1, h2, h3, h4⟩ := h
  rcases h2.2 with ⟨rfl, h0⟩ | ⟨g, cap, cur, rfl, hb, hg, hcap, hrest⟩
  · exact ⟨none, 0, by rw [h0], fun i hi => by unfold singles at hi; rw [List.length_map] at hi; omega⟩
  · refine ⟨some ⟨g, 0, none⟩, cap, rfl, fun i hi => ?_⟩
    have hi' : i < l.length := by unfold singles at hi; rw [List.length_map] at hi; exact hi
    have hib : i < bs.length := by omega
    have hc := h2.cells (g := g) rfl i (sOf bs[i]) (by rw [List.getElem?_map, List.getElem?_eq_getElem hib]; rfl)
    rw [add_plain] at hc
    have he : (singles l)[i] = [l[i]] := List.getElem_map ..
    refine ⟨g, 0, some ⟨bs[i], 0, none⟩, 1, rfl, ?_, ?_⟩
    · rw [he]
      exact hc
    · rw [he]
      exact h3 i _ _ (List.getElem?_eq_getElem hib) (List.getElem?_eq_getElem hi')
theorem vec_info : (Try.prog.info? 22).map (fun i => (i.zero, i.size, i.bytes)) = some (some (.slice none 0 0), 1, 24) := by kernel_rfl
theorem keep_row {w w' : World} {row : Option Nat} (h : w.grownBy w' row) : Keep (fun k => row = some k) w w' := by
  obtain ⟨h1, h2, h3, h4, h5⟩ := h
  exact ⟨h1, h2, h3, h4, fun k hk hn => h5 k hk (fun e => hn e.symm)⟩
/-- One more. -/
theorem wpList_append_sing {w0 w : World} {ops : Array Oper} {rest : List Oper} {o : Oper} {a : Act} {Q : Exit → Act → World → Prop} (hgd : o.guard = none) (s y : Operand)
    (ho : o.op = .call { callee := .builtin .append, args := #[s, y], argTypes := #[57, 57] }) {B : Nat} {v : Value} {l : List En} {x : En}
    (hs : a.eval s = v) (hy : a.eval y = .slice (some ⟨w0.heap.size + 1, 0, none⟩) 1 1) (hS : Sing w0 B v l) (hB : B ≤ w0.heap.size) (hlen : l.length ≤ 100000)
    (hw : w = (w0.alloc (.cells #[.string x.a, .int .u64 (x.n : Int)] 25)).alloc (.cells #[sOf w0.heap.size] 22))
    (h : ∀ v' w', Sing w' B v' (l ++ [x]) → Keep (fun k => v.ownBlock = some k) w0 w' → (v'.ownBlock = v.ownBlock ∨ ∃ g, v'.ownBlock = some g ∧ w0.heap.size ≤ g) → wpList Try.prog ops Q rest (a.put o.dst v') w') : wpList Try.prog ops Q (o :: rest) a w := by
  obtain ⟨i0, hi, z0, z1, z2⟩ := info_parts vec_info
  have k1 : Keep0 w0 (w0.alloc (.cells #[.string x.a, .int .u64 (x.n : Int)] 25)) := (Keep.refl _ w0).alloc _
  have k2 : Keep0 (w0.alloc (.cells #[.string x.a, .int .u64 (x.n : Int)] 25)) w := by rw [hw]; exact (Keep.refl _ _).alloc _
  have K := k1.trans k2
  have hx := (en_new w0 25 x).keep0 k2
  have hlt := hS.lt
  obtain ⟨bs, h1, h2, h3, h4⟩ := hS
  have h2w := rowE_keep h2 K (fun _ _ f => f)
  have sz : w.heap.size = w0.heap.size + 2 := by rw [hw, World.size_alloc, World.size_alloc]
  have hcell : ∀ j u, [sOf w0.heap.size][j]? = some u → w.cell? ((⟨w0.heap.size + 1, 0, none⟩ : Addr).add j) = some u := by
    intro j u hu
    have := cell_one_new (w0.alloc (.cells #[.string x.a, .int .u64 (x.n : Int)] 25)) (sOf w0.heap.size) 22 j u hu
    rw [World.size_alloc] at this
    rw [hw]
    exact this
  refine wpList_append_own_at (P := Try.prog) w hgd s y 57 ho B 22 i0 _ 1 24 Try.underlying57 hi z0 z1 z2 rfl (by decide) v l.length (bs.map sOf) hs h2w ⟨w0.heap.size + 1, 0, none⟩ 1 1 [sOf w0.heap.size] hy rfl hcell (by intro u hu; rw [List.mem_singleton.1 hu]; rfl) (by unfold maxLen; omega) (by omega) (by omega) ?_
  intro v' w' g1 g2 _ g4
  have kr := keep_row g2
  refine h v' w' ⟨bs ++ [w0.heap.size], by rw [List.length_append, List.length_append, h1]; rfl, ?_, ?_, ?_⟩ ((K.any).trans kr) ?_
  · rw [List.map_append, List.length_append]
    exact g1
  · intro i b z hb hz
    by_cases hi : i < l.length
    · rw [List.getElem?_append_left (by omega)] at hb
      rw [List.getElem?_append_left hi] at hz
      refine ((h3 i b z hb hz).keep0 K).keep kr ?_
      intro b2 off m e f
      cases e
      exact h4 b (List.mem_of_getElem? hb) f
    · rw [List.getElem?_append_right (by omega)] at hb
      rw [List.getElem?_append_right (by omega)] at hz
      have e0 : i - l.length = 0 := by
        have := (List.getElem?_eq_some_iff.1 hz).1
        simp at this
        omega
      rw [h1, e0] at hb
      rw [e0] at hz
      have hb' : b = w0.heap.size := by simpa using hb.symm
      have hz' : z = x := by simpa using hz.symm
      subst hb' hz'
      refine hx.keep kr ?_
      intro b2 off m e f
      cases e
      have := (hlt _ f).2
      omega
  · intro b hb f
    have hbl : b < w.heap.size := by
      rcases List.mem_append.1 hb with hb | hb
      · obtain ⟨i, hi, rfl⟩ := List.getElem_of_mem hb
        have hil : i < l.length := by omega
        obtain ⟨b2, off, e, hcl, _⟩ := h3 i _ _ (List.getElem?_eq_getElem hi) (List.getElem?_eq_getElem hil) 0 (by show 0 < 1; omega)
        cases e
        have := World.block_lt_of_cell? w0 _ hcl
        simp only at this
        omega
      · rw [List.mem_singleton.1 hb]
        omega
    rcases g4 with g4 | g4
    · rw [g4] at f
      rcases List.mem_append.1 hb with hb | hb
      · exact h4 b hb f
      · rw [List.mem_singleton.1 hb] at f
        have := (hlt _ f).2
        omega
    · rw [g4] at f
      cases f
      omega
  · rcases g4 with g4 | g4
    · exact Or.inl g4
    · exact Or.inr ⟨_, g4, by omega⟩
end Go.Proofs.Ytkbihpdfafapeaa
