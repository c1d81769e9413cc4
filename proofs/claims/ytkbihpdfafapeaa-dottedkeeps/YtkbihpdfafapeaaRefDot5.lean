/-
  Contract of the document's own Keep of dotted clocks, proved over this seat's translation.
  Conditions: at most 100 clocks; a vector has at most the greatest length that a slice may have, an actor that of a text.
-/
import Derived.Test.YtkbihpdfafapeaaRefDot
import Derived.Test.YtkbihpdfafapeaaRefDot3
import Derived.Deep.RegionWith
import Derived.Maps.AppendAt
namespace Go.Proofs.Ytkbihpdfafapeaa
open Go.RowKit

/-- Whole numbers in memory. -/
def NumsAt (w : World) (ao : Option Addr) (l : List Nat) : Prop := ∀ i (_ : i < l.length), ∃ b off, ao = some ⟨b, off, none⟩ ∧ w.cell? ⟨b, off + i, none⟩ = some (.int .i64 (l[i] : Int))
theorem NumsAt.keep0 {w w' : World} {ao : Option Addr} {l : List Nat} (h : NumsAt w ao l) (K : Keep0 w w') : NumsAt w' ao l := by
  intro i hi
  obtain ⟨b, off, e, h1⟩ := h i hi
  exact ⟨b, off, e, K.cell h1 (fun f => f)⟩
def numCells (l : List Nat) : List Value := l.map (fun (n : Nat) => Value.int .i64 (n : Int))
theorem nums_of_row12 {w : World} {B : Nat} {e : TypeId} {v : Value} {n : Nat} {l : List Nat} (h : w.ownsRow B e 1 v n (numCells l)) :
    ∃ ao cap, v = .slice ao l.length cap ∧ NumsAt w ao l ∧ (∀ b off m, ao = some ⟨b, off, m⟩ → B ≤ b) := by
  have hn : n = l.length := by have := h.1; unfold numCells at this; rw [List.length_map] at this; omega
  subst hn
  rcases h.2 with ⟨rfl, h0⟩ | ⟨g, cap, cur, rfl, hb, hg, hcap, hrest⟩
  · exact ⟨none, 0, by rw [h0], fun i hi => by omega, (fun b off m e => by cases e)⟩
  · refine ⟨some ⟨g, 0, none⟩, cap, rfl, fun i hi => ⟨g, 0, rfl, ?_⟩, (fun b off m e => by cases e; exact hb)⟩
    have := h.cells (g := g) rfl i (.int .i64 (l[i] : Int)) (by unfold numCells; rw [List.getElem?_map, List.getElem?_eq_getElem hi]; rfl)
    rwa [add_plain] at this
theorem int_info : (Try.prog.info? 3).map (fun i => (i.zero, i.size, i.bytes)) = some (some (.int .i64 0), 1, 8) := by kernel_rfl
/-- append of one number onto a slice that the call owns. -/
theorem wpList_append_num {w : World} {ops : Array Oper} {rest : List Oper} {o : Oper} {a : Act} {Q : Exit → Act → World → Prop} (hgd : o.guard = none) (s y : Operand)
    (ho : o.op = .call { callee := .builtin .append, args := #[s, y], argTypes := #[42, 42] }) {B : Nat} {v : Value} {l : List Nat} {g n : Nat}
    (hs : a.eval s = v) (hy : a.eval y = .slice (some ⟨g, 0, none⟩) 1 1) (hown : w.ownsRow B 3 1 v l.length (numCells l)) (hc : w.cell? ⟨g, 0, none⟩ = some (.int .i64 (n : Int))) (hB : B ≤ w.heap.size) (hlen : l.length ≤ 100000)
    (h : ∀ v' w', w'.ownsRow B 3 1 v' (l ++ [n]).length (numCells (l ++ [n])) → w.grownBy w' v.ownBlock → wpList Try.prog ops Q rest (a.put o.dst v') w') : wpList Try.prog ops Q (o :: rest) a w := by
  obtain ⟨i0, hi, z0, z1, z2⟩ := info_parts int_info
  refine wpList_append_own_at (P := Try.prog) w hgd s y 42 ho B 3 i0 _ 1 8 Try.underlying42 hi z0 z1 z2 rfl (by decide) v l.length (numCells l) hs hown ⟨g, 0, none⟩ 1 1 [.int .i64 (n : Int)] hy rfl (by
    intro j u hu
    have : j = 0 := by
      have := (List.getElem?_eq_some_iff.1 hu).1
      simpa using this
    subst this
    have hu : u = .int .i64 (n : Int) := by simpa using hu.symm
    rw [hu, add_plain]
    exact hc) (by intro u hu; rw [List.mem_singleton.1 hu]; rfl) (by unfold maxLen; omega) (by omega) hB ?_
  intro v' w' g1 g2 _ _
  refine h v' w' ?_ g2
  unfold numCells
  rw [List.map_append, List.length_append]
  exact g1
def keepTo (l : List Ck) (i j : Nat) : Bool := (List.range j).all (fun z => !beats l z i)
theorem keepTo_zero (l : List Ck) (i : Nat) : keepTo l i 0 = true := rfl
theorem keepTo_succ (l : List Ck) (i j : Nat) : keepTo l i (j + 1) = (keepTo l i j && !beats l j i) := by
  unfold keepTo
  rw [List.range_succ, List.all_append]
  simp
theorem keepTo_no {l : List Ck} {i j : Nat} (h : beats l j i = false) : keepTo l i (j + 1) = keepTo l i j := by rw [keepTo_succ, h]; simp
theorem keepTo_yes {l : List Ck} {i j : Nat} (h : beats l j i = true) : keepTo l i (j + 1) = false := by rw [keepTo_succ, h]; simp
theorem beats_no {l : List Ck} {j i : Nat} (hj : j < l.length) (hi : i < l.length) (h : ¬ (j ≠ i ∧ kCovers l[j] l[i] = true ∧ ¬ (kCovers l[i] l[j] = true ∧ i < j))) : beats l j i = false := by
  cases hb : beats l j i with
  | false => rfl
  | true => exact absurd ((beats_iff hj hi).1 hb) h
def keptTo (l : List Ck) (i : Nat) : List Nat := (List.range i).filter (keepAt l)
theorem keptTo_succ (l : List Ck) (i : Nat) : keptTo l (i + 1) = keptTo l i ++ (if keepAt l i = true then [i] else []) := by
  unfold keptTo
  rw [List.range_succ, List.filter_append]
  congr 1
  by_cases h : keepAt l i = true
  · rw [if_pos h, List.filter_cons_of_pos h]
    rfl
  · rw [if_neg h, List.filter_cons_of_neg h]
    rfl
theorem keptTo_len (l : List Ck) (i : Nat) : (keptTo l i).length ≤ i := by
  have := List.length_filter_le (keepAt l) (List.range i)
  rw [List.length_range] at this
  exact this
/-- Places, and an error, are answered. -/
def RNumsE (p : List Nat × Int) (w : World) (e : Ending) (w' : World) : Prop := ∃ ao cap, e = .returned (.tuple #[.slice ao p.1.length cap, .int .i64 p.2]) ∧ NumsAt w' ao p.1 ∧ Keep0 w w'
theorem RNumsE.bare {p : List Nat × Int} {w w' : World} {e : Ending} {E : Int} (hp : p = ([], E)) (h : e = .returned (.tuple #[.slice none 0 0, .int .i64 E])) (h3 : Keep0 w w') : RNumsE p w e w' := by
  subst hp
  exact ⟨none, 0, h, (fun i hi => by cases hi), h3⟩
theorem RNumsE.mk {p : List Nat × Int} {w w' : World} {e : Ending} {l : List Nat} {ao : Option Addr} {cap : Nat} (hp : p = (l, 0)) (h : e = .returned (.tuple #[.slice ao l.length cap, .int .i64 0])) (h1 : NumsAt w' ao l) (h3 : Keep0 w w') : RNumsE p w e w' := by
  subst hp
  exact ⟨ao, cap, h, h1, h3⟩
set_option maxRecDepth 100000 in
set_option maxHeartbeats 8000000 in
theorem rkeep12 (w : World) (ao : Option Addr) (cap : Nat) (l : List Ck) (hl : l.length ≤ 100) (hf : ∀ k ∈ l, FitsK k) (hc : ClksAt w ao l) :
    Calls Try.prog 21 #[.slice ao l.length cap] w (RNumsE (kKeep l) w) := by
  have HC : Hid (ClksAt w ao l) := hc
  have HF : Hid (∀ k ∈ l, FitsK k) := hf
  have hl' : (l.length : Int) ≤ 9223372036854775807 := by omega
  have HE : Hid (∀ (W : World) (e : Ending), kKeep l = ([], 1) → e = .returned (.tuple #[.slice none 0 0, .int .i64 1]) → Keep0 w W → RNumsE (kKeep l) w e W) := fun _ _ h1 h2 h3 => RNumsE.bare h1 h2 h3
  have HM : Hid (∀ (W : World) (e : Ending) (O : List Nat) (so : Option Addr) (sc : Nat), kKeep l = (O, 0) → e = .returned (.tuple #[.slice so O.length sc, .int .i64 0]) → NumsAt W so O → Keep0 w W → RNumsE (kKeep l) w e W) := fun _ _ _ _ _ h1 h2 h3 h4 => RNumsE.mk h1 h2 h3 h4
  clear hc hf
  go_enter Try.func21, Try.ntmps21
  go_wp2_with fail
  go_loopw [5] (fun i wr => ∃ (k : Nat), i = .int .i64 (k : Int) ∧ k ≤ l.length ∧ Hid (∀ y ∈ l.take k, Right y) ∧ Keep0 w wr) (fun i _ => l.length - (intOf i).toNat)
  case atStart => exact ⟨0, rfl, by omega, (fun y h => by cases h), Keep.refl _ _⟩
  case round =>
    obtain ⟨k, rfl, hk, HR, hK⟩ := hrel
    by_cases hlt : k < l.length
    · have i1 : (k : Int) < l.length := by omega
      obtain ⟨b, off, to, tc, rfl, x4, hE⟩ := HC.out k hlt
      have x4 := x4.keep0 hK
      have hfk := HF.out l[k] (List.getElem_mem hlt)
      have yc := rcheck12 wr to tc l[k] hfk (hE.keep0 hK)
      by_cases h0 : kCheck l[k] = 0
      · have hR : Right l[k] := (right_iff _).1 h0
        have HR2 : Hid (∀ y ∈ l.take (k + 1), Right y) := by
          intro y hy
          rw [List.take_succ_eq_append_getElem hlt] at hy
          rcases List.mem_append.1 hy with hy | hy
          · exact HR.out y hy
          · rw [List.mem_singleton.1 hy]; exact hR
        rw [h0] at yc
        clear HR h0 hfk hE hR
        generalize l[k] = y at *
        obtain ⟨x0, x1, x2, x3⟩ := x4
        go_wp2_with fail
        refine yc.mono ?_
        rintro e w1 ⟨rfl, k1⟩
        have K1 := hK.trans k1
        clear yc k1 hK x0 x1 x2 x3
        go_wp2
        go_roundw
        case rel => exact ⟨k + 1, by go_num, by omega, HR2, K1⟩
        case measure => simp [intOf]; omega
      · have HV : Hid (kKeep l = ([], 1)) := by
          show kKeep l = _
          have hr : kRights l = false := by
            cases hr : kRights l with
            | false => rfl
            | true => exact absurd ((right_iff _).2 (kRights_iff.1 hr _ (List.getElem_mem hlt))) h0
          unfold kKeep
          rw [hr]
          exact if_neg (by decide)
        have e0 : (kCheck l[k] != 0) = true := by simpa using h0
        clear HM HR h0 hfk hE
        generalize kCheck l[k] = C at *
        obtain ⟨x0, x1, x2, x3⟩ := x4
        generalize l[k] = y at *
        go_wp2_with fail
        refine yc.mono ?_
        rintro e w1 ⟨rfl, k1⟩
        have K1 := hK.trans k1
        clear yc k1 hK
        go_wp2
        go_ret2
        exact HE.out _ _ HV.out rfl K1
    · have i1 : ¬ (k : Int) < l.length := by omega
      have hr := HR.out
      rw [List.take_of_length_le (by omega)] at hr
      have HR0 : Hid (∀ y ∈ l, Right y) := hr
      have HV : Hid (kKeep l = (kKept l, 0)) := by
        show kKeep l = _
        unfold kKeep
        rw [if_pos (kRights_iff.2 hr)]
      have hB := hK.size
      have HK1 : Hid (Keep0 w wr) := hK
      have HO : Hid (wr.ownsRow w.heap.size 3 1 (.slice none 0 0) 0 (numCells [])) := ⟨rfl, .inl ⟨rfl, rfl⟩⟩
      clear HR hr HE hK hB
      go_wp2_with fail
      generalize hw1 : wr = W1 at *
      clear hw1
      go_loopw [4, 6] (fun v i wr => ∃ (k : Nat) (O : List Nat), i = .int .i64 (k : Int) ∧ k ≤ l.length ∧ Hid (O = keptTo l k) ∧ O.length ≤ k ∧ wr.ownsRow w.heap.size 3 1 v O.length (numCells O) ∧ Keep0 w wr) (fun _ i _ => l.length - (intOf i).toNat)
      case atStart => exact ⟨0, [], rfl, by omega, rfl, by simp, HO.out, HK1.out⟩
      case round =>
        obtain ⟨k, O, rfl, hk, HOk, hOl, hown, hK⟩ := hrel
        clear HO HK1
        obtain ⟨vo0, vn0, vc0, rfl⟩ := sliceE_of_own hown
        by_cases hlt : k < l.length
        · have i1 : (k : Int) < l.length := by omega
          have HKp : Hid (keepTo l k 0 = true) := keepTo_zero l k
          go_wp2_with fail
          have HK1 : Hid (Keep0 w wr) := hK
          have HOw : Hid (wr.ownsRow w.heap.size 3 1 (.slice vo0 vn0 vc0) O.length (numCells O)) := hown
          clear hK hown
          generalize hw1 : wr = W1 at *
          clear hw1
          go_loopw [7, 8] (fun q i wr => ∃ (j : Nat) (p : Bool), i = .int .i64 (j : Int) ∧ q = .bool p ∧ j ≤ l.length ∧ Hid (keepTo l k j = p) ∧ Hid (wr.ownsRow w.heap.size 3 1 (.slice vo0 vn0 vc0) O.length (numCells O)) ∧ Keep0 w wr) (fun _ i _ => l.length - (intOf i).toNat)
          case atStart => exact ⟨0, true, rfl, rfl, by omega, HKp, HOw, HK1.out⟩
          case round =>
            obtain ⟨j, p, rfl, rfl, hj, HP, HOw, hK⟩ := hrel
            clear HKp HK1
            by_cases hjt : j < l.length
            · have i2 : (j : Int) < l.length := by omega
              have hkj := HOw.out
              have hfj := HF.out l[j] (List.getElem_mem hjt)
              have hfk := HF.out l[k] (List.getElem_mem hlt)
              have hrj := HR0.out l[j] (List.getElem_mem hjt)
              have hrk := HR0.out l[k] (List.getElem_mem hlt)
              by_cases hjk : k = j
              · have HP2 : Hid (keepTo l k (j + 1) = p) := by
                  show _ = p
                  rw [keepTo_no (by rw [hjk]; exact beats_irr l j)]
                  exact HP.out
                have hKd : Keep0 w wr.drew := hK.drew
                have HOd : Hid (wr.drew.ownsRow w.heap.size 3 1 (.slice vo0 vn0 vc0) O.length (numCells O)) := rowE_keep hkj ((Keep.refl _ wr).drew) (fun _ _ f => f)
                have i5 : ((k : Int) == (j : Int)) = true := by simp; omega
                have i6 : (k : Int) = (j : Int) := by omega
                clear HP hkj HOw hfj hfk hrj hrk hK hjk
                go_wp2_with fail
                refine wp_region_held_drew (S := (fun _ => True)) (by kernel_rfl) trivial (fun hHeld => ?_)
                refine wpAnyH_take (i := 0) (v := ?e0v) (by simp only [List.getElem?_toArray, List.getElem?_cons_zero] <;> rfl) (by kernel_rfl) (by kernel_rfl) (by kernel_rfl) (by exact fun _ _ _ h => h) (Or.inl ⟨by rfl, ?e0y⟩) hHeld ?e0r
                case e0y => intro w hSw; (try dsimp only at hSw); go_simp <;> rfl
                simp only [Act.put, List.setIfInBounds_toArray, List.set_cons_zero, List.set_cons_succ]
                refine wpAnyH_take (i := 1) (v := ?e1v) (by simp only [List.getElem?_toArray, List.getElem?_cons_succ, List.getElem?_cons_zero] <;> rfl) (by kernel_rfl) (by kernel_rfl) (by kernel_rfl) (by exact fun _ _ _ h => h) (Or.inl ⟨by rfl, ?e1y⟩) hHeld ?e1r
                case e1y => intro w hSw; (try dsimp only at hSw); go_simp <;> rfl
                simp only [Act.put, List.setIfInBounds_toArray, List.set_cons_zero, List.set_cons_succ]
                refine wpAnyH_take (i := 2) (v := ?e2v) (by simp only [List.getElem?_toArray, List.getElem?_cons_succ, List.getElem?_cons_zero] <;> rfl) (by kernel_rfl) (by kernel_rfl) (by kernel_rfl) (by exact fun _ _ _ h => h) (Or.inl ⟨by rfl, ?e2y⟩) hHeld ?e2r
                case e2y => intro w hSw; (try dsimp only at hSw); go_simp <;> rfl
                simp only [Act.put, List.setIfInBounds_toArray, List.set_cons_zero, List.set_cons_succ]
                refine wpAnyH_take (i := 3) (v := ?e3v) (by simp only [List.getElem?_toArray, List.getElem?_cons_succ, List.getElem?_cons_zero] <;> rfl) (by kernel_rfl) (by kernel_rfl) (by kernel_rfl) (by exact fun _ _ _ h => h) (Or.inl ⟨by rfl, ?e3y⟩) hHeld ?e3r
                case e3y => intro w hSw; (try dsimp only at hSw); go_simp <;> rfl
                simp only [Act.put, List.setIfInBounds_toArray, List.set_cons_zero, List.set_cons_succ]
                refine wpAnyH_take (i := 4) (v := undef) (by simp only [List.getElem?_toArray, List.getElem?_cons_succ, List.getElem?_cons_zero] <;> rfl) (by kernel_rfl) (by kernel_rfl) (by kernel_rfl) (by exact fun _ _ _ h => h) (Or.inr ⟨by rfl, rfl⟩) hHeld ?e4r
                simp only [Act.put, List.setIfInBounds_toArray, List.set_cons_zero, List.set_cons_succ]
                refine wpAnyH_take (i := 5) (v := undef) (by simp only [List.getElem?_toArray, List.getElem?_cons_succ, List.getElem?_cons_zero] <;> rfl) (by kernel_rfl) (by kernel_rfl) (by kernel_rfl) (by exact fun _ _ _ h => h) (Or.inr ⟨by rfl, rfl⟩) hHeld ?e5r
                simp only [Act.put, List.setIfInBounds_toArray, List.set_cons_zero, List.set_cons_succ]
                refine wpAnyH_take (i := 6) (v := undef) (by simp only [List.getElem?_toArray, List.getElem?_cons_succ, List.getElem?_cons_zero] <;> rfl) (by kernel_rfl) (by kernel_rfl) (by kernel_rfl) (by exact fun _ _ _ h => h) (Or.inr ⟨by rfl, rfl⟩) hHeld ?e6r
                simp only [Act.put, List.setIfInBounds_toArray, List.set_cons_zero, List.set_cons_succ]
                refine wpAnyH_take (i := 7) (v := undef) (by simp only [List.getElem?_toArray, List.getElem?_cons_succ, List.getElem?_cons_zero] <;> rfl) (by kernel_rfl) (by kernel_rfl) (by kernel_rfl) (by exact fun _ _ _ h => h) (Or.inr ⟨by rfl, rfl⟩) hHeld ?e7r
                simp only [Act.put, List.setIfInBounds_toArray, List.set_cons_zero, List.set_cons_succ]
                refine wpAnyH_take (i := 8) (v := undef) (by simp only [List.getElem?_toArray, List.getElem?_cons_succ, List.getElem?_cons_zero] <;> rfl) (by kernel_rfl) (by kernel_rfl) (by kernel_rfl) (by exact fun _ _ _ h => h) (Or.inr ⟨by rfl, rfl⟩) hHeld ?e8r
                simp only [Act.put, List.setIfInBounds_toArray, List.set_cons_zero, List.set_cons_succ]
                refine wpAnyH_take (i := 9) (v := undef) (by simp only [List.getElem?_toArray, List.getElem?_cons_succ, List.getElem?_cons_zero] <;> rfl) (by kernel_rfl) (by kernel_rfl) (by kernel_rfl) (by exact fun _ _ _ h => h) (Or.inr ⟨by rfl, rfl⟩) hHeld ?e9r
                simp only [Act.put, List.setIfInBounds_toArray, List.set_cons_zero, List.set_cons_succ]
                refine wpAnyH_take (i := 10) (v := undef) (by simp only [List.getElem?_toArray, List.getElem?_cons_succ, List.getElem?_cons_zero] <;> rfl) (by kernel_rfl) (by kernel_rfl) (by kernel_rfl) (by exact fun _ _ _ h => h) (Or.inr ⟨by rfl, rfl⟩) hHeld ?e10r
                simp only [Act.put, List.setIfInBounds_toArray, List.set_cons_zero, List.set_cons_succ]
                refine wpAnyH_take (i := 11) (v := undef) (by simp only [List.getElem?_toArray, List.getElem?_cons_succ, List.getElem?_cons_zero] <;> rfl) (by kernel_rfl) (by kernel_rfl) (by kernel_rfl) (by exact fun _ _ _ h => h) (Or.inr ⟨by rfl, rfl⟩) hHeld ?e11r
                simp only [Act.put, List.setIfInBounds_toArray, List.set_cons_zero, List.set_cons_succ]
                refine wpAnyH_take (i := 12) (v := undef) (by simp only [List.getElem?_toArray, List.getElem?_cons_succ, List.getElem?_cons_zero] <;> rfl) (by kernel_rfl) (by kernel_rfl) (by kernel_rfl) (by exact fun _ _ _ h => h) (Or.inr ⟨by rfl, rfl⟩) hHeld ?e12r
                simp only [Act.put, List.setIfInBounds_toArray, List.set_cons_zero, List.set_cons_succ]
                refine wpAnyH_take (i := 13) (v := undef) (by simp only [List.getElem?_toArray, List.getElem?_cons_succ, List.getElem?_cons_zero] <;> rfl) (by kernel_rfl) (by kernel_rfl) (by kernel_rfl) (by exact fun _ _ _ h => h) (Or.inr ⟨by rfl, rfl⟩) hHeld ?e13r
                simp only [Act.put, List.setIfInBounds_toArray, List.set_cons_zero, List.set_cons_succ]
                refine wpAnyH_take (i := 14) (v := ?e14v) (by simp only [List.getElem?_toArray, List.getElem?_cons_succ, List.getElem?_cons_zero] <;> rfl) (by kernel_rfl) (by kernel_rfl) (by kernel_rfl) (by exact fun _ _ _ h => h) (Or.inl ⟨by rfl, ?e14y⟩) hHeld ?e14r
                case e14y => intro w hSw; (try dsimp only at hSw); go_simp <;> rfl
                simp only [Act.put, List.setIfInBounds_toArray, List.set_cons_zero, List.set_cons_succ]
                refine wpAnyH_done (by kernel_rfl) ?_ _
                clear hHeld
                go_wp2
                go_roundw
                case rel => exact ⟨j + 1, p, by go_num, rfl, by omega, HP2, HOd, hKd⟩
                case measure => simp [intOf]; omega
              · have i5 : ((k : Int) == (j : Int)) = false := beq_eq_false_iff_ne.2 (by omega)
                have i6 : ¬ (k : Int) = (j : Int) := by omega
                obtain ⟨b, off, jo, jc, eao, xj, hEj⟩ := HC.out j hjt
                obtain ⟨b2, off2, ko, kc, e2, xk, hEk⟩ := HC.out k hlt
                subst eao
                cases e2
                have y1 := fun W (K : Keep0 wr W) => rcovers12 W jo ko jc kc l[j] l[k] hfj hfk hrj (hEj.keep0 (hK.trans K)) (hEk.keep0 (hK.trans K))
                have y2 := fun W (K : Keep0 wr W) => rcovers12 W ko jo kc jc l[k] l[j] hfk hfj hrk (hEk.keep0 (hK.trans K)) (hEj.keep0 (hK.trans K))
                have HN : Hid (¬ (j ≠ k ∧ kCovers l[j] l[k] = true ∧ ¬ (kCovers l[k] l[j] = true ∧ k < j)) → keepTo l k (j + 1) = p) := fun h => by rw [keepTo_no (beats_no hjt hlt h)]; exact HP.out
                have HY : Hid (j ≠ k ∧ kCovers l[j] l[k] = true ∧ ¬ (kCovers l[k] l[j] = true ∧ k < j) → keepTo l k (j + 1) = false) := fun h => keepTo_yes ((beats_iff hjt hlt).2 h)
                obtain ⟨xj0, xj1, xj2, xj3⟩ := xj.keep0 hK
                obtain ⟨xk0, xk1, xk2, xk3⟩ := xk.keep0 hK
                have HOk2 : Hid (∀ W, Keep0 wr W → W.ownsRow w.heap.size 3 1 (.slice vo0 vn0 vc0) O.length (numCells O)) := fun W K => rowE_keep hkj K (fun _ _ f => f)
                clear HP hkj HOw hfj hfk hrj hrk xj xk hEj hEk
                generalize l[j] = Y at *
                generalize l[k] = Z at *
                cases hc1 : kCovers Y Z with
                | false =>
                  have HP2 : Hid (keepTo l k (j + 1) = p) := HN.out (fun h => by rw [hc1] at h; cases h.2.1)
                  rw [hc1] at y1
                  clear HN HY y2 hc1
                  go_wp2_with fail
                  refine wp_region_held_drew (S := (fun W => W.cell? ⟨b, off + j * 4, none⟩ = some (.slice jo Y.c.length jc) ∧ W.cell? ⟨b, off + j * 4 + 1, none⟩ = some (.bool Y.d) ∧ W.cell? ⟨b, off + j * 4 + 2, none⟩ = some (.string Y.x.a) ∧ W.cell? ⟨b, off + j * 4 + 3, none⟩ = some (.int .u64 (Y.x.n : Int)) ∧ W.cell? ⟨b, off + k * 4, none⟩ = some (.slice ko Z.c.length kc) ∧ W.cell? ⟨b, off + k * 4 + 1, none⟩ = some (.bool Z.d) ∧ W.cell? ⟨b, off + k * 4 + 2, none⟩ = some (.string Z.x.a) ∧ W.cell? ⟨b, off + k * 4 + 3, none⟩ = some (.int .u64 (Z.x.n : Int)))) (by kernel_rfl) ⟨xj0, xj1, xj2, xj3, xk0, xk1, xk2, xk3⟩ (fun hHeld => ?_)
                  refine wpAnyH_take (i := 0) (v := ?a0v) (by simp only [List.getElem?_toArray, List.getElem?_cons_zero] <;> rfl) (by kernel_rfl) (by kernel_rfl) (by kernel_rfl) (by exact fun _ _ _ h => h) (Or.inl ⟨by rfl, ?a0y⟩) hHeld ?a0r
                  case a0y => intro w hSw; (try dsimp only at hSw); go_simp <;> rfl
                  simp only [Act.put, List.setIfInBounds_toArray, List.set_cons_zero, List.set_cons_succ]
                  refine wpAnyH_take (i := 1) (v := ?a1v) (by simp only [List.getElem?_toArray, List.getElem?_cons_succ, List.getElem?_cons_zero] <;> rfl) (by kernel_rfl) (by kernel_rfl) (by kernel_rfl) (by exact fun _ _ _ h => h) (Or.inl ⟨by rfl, ?a1y⟩) hHeld ?a1r
                  case a1y => intro w hSw; (try dsimp only at hSw); go_simp <;> rfl
                  simp only [Act.put, List.setIfInBounds_toArray, List.set_cons_zero, List.set_cons_succ]
                  refine wpAnyH_take (i := 2) (v := ?a2v) (by simp only [List.getElem?_toArray, List.getElem?_cons_succ, List.getElem?_cons_zero] <;> rfl) (by kernel_rfl) (by kernel_rfl) (by kernel_rfl) (by exact fun _ _ _ h => h) (Or.inl ⟨by rfl, ?a2y⟩) hHeld ?a2r
                  case a2y => intro w hSw; (try dsimp only at hSw); go_simp <;> rfl
                  simp only [Act.put, List.setIfInBounds_toArray, List.set_cons_zero, List.set_cons_succ]
                  refine wpAnyH_take (i := 3) (v := ?a3v) (by simp only [List.getElem?_toArray, List.getElem?_cons_succ, List.getElem?_cons_zero] <;> rfl) (by kernel_rfl) (by kernel_rfl) (by kernel_rfl) (by exact fun _ _ _ h => h) (Or.inl ⟨by rfl, ?a3y⟩) hHeld ?a3r
                  case a3y => intro w hSw; (try dsimp only at hSw); go_simp <;> rfl
                  simp only [Act.put, List.setIfInBounds_toArray, List.set_cons_zero, List.set_cons_succ]
                  refine wpAnyH_take (i := 4) (v := ?a4v) (by simp only [List.getElem?_toArray, List.getElem?_cons_succ, List.getElem?_cons_zero] <;> rfl) (by kernel_rfl) (by kernel_rfl) (by kernel_rfl) (by exact fun _ _ _ h => h) (Or.inl ⟨by rfl, ?a4y⟩) hHeld ?a4r
                  case a4y => intro w hSw; (try dsimp only at hSw); go_simp <;> rfl
                  simp only [Act.put, List.setIfInBounds_toArray, List.set_cons_zero, List.set_cons_succ]
                  refine wpAnyH_take (i := 5) (v := ?a5v) (by simp only [List.getElem?_toArray, List.getElem?_cons_succ, List.getElem?_cons_zero] <;> rfl) (by kernel_rfl) (by kernel_rfl) (by kernel_rfl) (by exact fun _ _ _ h => h) (Or.inl ⟨by rfl, ?a5y⟩) hHeld ?a5r
                  case a5y => intro w hSw; (try dsimp only at hSw); go_simp <;> rfl
                  simp only [Act.put, List.setIfInBounds_toArray, List.set_cons_zero, List.set_cons_succ]
                  refine wpAnyH_take (i := 6) (v := ?a6v) (by simp only [List.getElem?_toArray, List.getElem?_cons_succ, List.getElem?_cons_zero] <;> rfl) (by kernel_rfl) (by kernel_rfl) (by kernel_rfl) (by exact fun _ _ _ h => h) (Or.inl ⟨by rfl, ?a6y⟩) hHeld ?a6r
                  case a6y => intro w hSw; (try dsimp only at hSw); go_simp <;> rfl
                  simp only [Act.put, List.setIfInBounds_toArray, List.set_cons_zero, List.set_cons_succ]
                  refine wpAnyH_take (i := 7) (v := ?a7v) (by simp only [List.getElem?_toArray, List.getElem?_cons_succ, List.getElem?_cons_zero] <;> rfl) (by kernel_rfl) (by kernel_rfl) (by kernel_rfl) (by exact fun _ _ _ h => h) (Or.inl ⟨by rfl, ?a7y⟩) hHeld ?a7r
                  case a7y => intro w hSw; (try dsimp only at hSw); go_simp <;> rfl
                  simp only [Act.put, List.setIfInBounds_toArray, List.set_cons_zero, List.set_cons_succ]
                  refine wpAnyH_take (i := 8) (v := ?a8v) (by simp only [List.getElem?_toArray, List.getElem?_cons_succ, List.getElem?_cons_zero] <;> rfl) (by kernel_rfl) (by kernel_rfl) (by kernel_rfl) (by exact fun _ _ _ h => h) (Or.inl ⟨by rfl, ?a8y⟩) hHeld ?a8r
                  case a8y => intro w hSw; (try dsimp only at hSw); go_simp <;> rfl
                  simp only [Act.put, List.setIfInBounds_toArray, List.set_cons_zero, List.set_cons_succ]
                  refine wpAnyH_take (i := 9) (v := ?a9v) (by simp only [List.getElem?_toArray, List.getElem?_cons_succ, List.getElem?_cons_zero] <;> rfl) (by kernel_rfl) (by kernel_rfl) (by kernel_rfl) (by exact fun _ _ _ h => h) (Or.inl ⟨by rfl, ?a9y⟩) hHeld ?a9r
                  case a9y => intro w hSw; (try dsimp only at hSw); go_simp <;> rfl
                  simp only [Act.put, List.setIfInBounds_toArray, List.set_cons_zero, List.set_cons_succ]
                  refine wpAnyH_take (i := 10) (v := ?a10v) (by simp only [List.getElem?_toArray, List.getElem?_cons_succ, List.getElem?_cons_zero] <;> rfl) (by kernel_rfl) (by kernel_rfl) (by kernel_rfl) (by exact fun _ _ _ h => h) (Or.inl ⟨by rfl, ?a10y⟩) hHeld ?a10r
                  case a10y => intro w hSw; (try dsimp only at hSw); go_simp <;> rfl
                  simp only [Act.put, List.setIfInBounds_toArray, List.set_cons_zero, List.set_cons_succ]
                  refine wpAnyH_take (i := 11) (v := ?a11v) (by simp only [List.getElem?_toArray, List.getElem?_cons_succ, List.getElem?_cons_zero] <;> rfl) (by kernel_rfl) (by kernel_rfl) (by kernel_rfl) (by exact fun _ _ _ h => h) (Or.inl ⟨by rfl, ?a11y⟩) hHeld ?a11r
                  case a11y => intro w hSw; (try dsimp only at hSw); go_simp <;> rfl
                  simp only [Act.put, List.setIfInBounds_toArray, List.set_cons_zero, List.set_cons_succ]
                  refine wpAnyH_ready (rs := [12]) (by kernel_rfl) (by simp) ?_
                  refine AllReadyH.cons (by simp only [List.getElem?_toArray, List.getElem?_cons_succ, List.getElem?_cons_zero] <;> rfl) (fun K hK => ?_) AllReadyH.nil
                  go_simp
                  refine (y1 _ (Keep.refl _ _).drew).mono ?_
                  rintro e w3 ⟨rfl, kx⟩
                  have kw3 : Keep0 wr w3 := ((Keep.refl _ wr).drew).trans kx
                  clear kx
                  go_wp2_with fail
                  refine hK.out _ _ ⟨kw3.cell xj0 (fun f => f), kw3.cell xj1 (fun f => f), kw3.cell xj2 (fun f => f), kw3.cell xj3 (fun f => f), kw3.cell xk0 (fun f => f), kw3.cell xk1 (fun f => f), kw3.cell xk2 (fun f => f), kw3.cell xk3 (fun f => f)⟩ (fun hHeld => ?_)
                  clear hK K
                  refine wpAnyH_take (i := 13) (v := ?a12v) (by simp only [List.getElem?_toArray, List.getElem?_cons_succ, List.getElem?_cons_zero] <;> rfl) (by kernel_rfl) (by kernel_rfl) (by kernel_rfl) (by exact fun _ _ _ h => h) (Or.inl ⟨by rfl, ?a12y⟩) hHeld ?a12r
                  case a12y => intro w hSw; (try dsimp only at hSw); go_simp <;> rfl
                  simp only [Act.put, List.setIfInBounds_toArray, List.set_cons_zero, List.set_cons_succ]
                  refine wpAnyH_take (i := 14) (v := ?a13v) (by simp only [List.getElem?_toArray, List.getElem?_cons_succ, List.getElem?_cons_zero] <;> rfl) (by kernel_rfl) (by kernel_rfl) (by kernel_rfl) (by exact fun _ _ _ h => h) (Or.inl ⟨by rfl, ?a13y⟩) hHeld ?a13r
                  case a13y => intro w hSw; (try dsimp only at hSw); go_simp <;> rfl
                  simp only [Act.put, List.setIfInBounds_toArray, List.set_cons_zero, List.set_cons_succ]
                  refine wpAnyH_done (by kernel_rfl) ?_ _
                  have K3 := hK.trans kw3
                  have HOd : Hid (w3.ownsRow w.heap.size 3 1 (.slice vo0 vn0 vc0) O.length (numCells O)) := HOk2.out _ kw3
                  clear y1 kw3 hK HOk2 hHeld
                  go_wp2
                  go_roundw
                  case rel => exact ⟨j + 1, p, by go_num, rfl, by omega, HP2, HOd, K3⟩
                  case measure => simp [intOf]; omega
                | true =>
                  rw [hc1] at y1
                  cases hc2 : kCovers Z Y with
                  | false =>
                    have HP2 : Hid (keepTo l k (j + 1) = false) := HY.out ⟨fun e => hjk e.symm, hc1, fun h => by rw [hc2] at h; cases h.1⟩
                    rw [hc2] at y2
                    clear HN HY hc1 hc2
                    go_wp2_with fail
                    refine wp_region_held_drew (S := (fun W => W.cell? ⟨b, off + j * 4, none⟩ = some (.slice jo Y.c.length jc) ∧ W.cell? ⟨b, off + j * 4 + 1, none⟩ = some (.bool Y.d) ∧ W.cell? ⟨b, off + j * 4 + 2, none⟩ = some (.string Y.x.a) ∧ W.cell? ⟨b, off + j * 4 + 3, none⟩ = some (.int .u64 (Y.x.n : Int)) ∧ W.cell? ⟨b, off + k * 4, none⟩ = some (.slice ko Z.c.length kc) ∧ W.cell? ⟨b, off + k * 4 + 1, none⟩ = some (.bool Z.d) ∧ W.cell? ⟨b, off + k * 4 + 2, none⟩ = some (.string Z.x.a) ∧ W.cell? ⟨b, off + k * 4 + 3, none⟩ = some (.int .u64 (Z.x.n : Int)))) (by kernel_rfl) ⟨xj0, xj1, xj2, xj3, xk0, xk1, xk2, xk3⟩ (fun hHeld => ?_)
                    refine wpAnyH_take (i := 0) (v := ?b0v) (by simp only [List.getElem?_toArray, List.getElem?_cons_zero] <;> rfl) (by kernel_rfl) (by kernel_rfl) (by kernel_rfl) (by exact fun _ _ _ h => h) (Or.inl ⟨by rfl, ?b0y⟩) hHeld ?b0r
                    case b0y => intro w hSw; (try dsimp only at hSw); go_simp <;> rfl
                    simp only [Act.put, List.setIfInBounds_toArray, List.set_cons_zero, List.set_cons_succ]
                    refine wpAnyH_take (i := 1) (v := ?b1v) (by simp only [List.getElem?_toArray, List.getElem?_cons_succ, List.getElem?_cons_zero] <;> rfl) (by kernel_rfl) (by kernel_rfl) (by kernel_rfl) (by exact fun _ _ _ h => h) (Or.inl ⟨by rfl, ?b1y⟩) hHeld ?b1r
                    case b1y => intro w hSw; (try dsimp only at hSw); go_simp <;> rfl
                    simp only [Act.put, List.setIfInBounds_toArray, List.set_cons_zero, List.set_cons_succ]
                    refine wpAnyH_take (i := 2) (v := ?b2v) (by simp only [List.getElem?_toArray, List.getElem?_cons_succ, List.getElem?_cons_zero] <;> rfl) (by kernel_rfl) (by kernel_rfl) (by kernel_rfl) (by exact fun _ _ _ h => h) (Or.inl ⟨by rfl, ?b2y⟩) hHeld ?b2r
                    case b2y => intro w hSw; (try dsimp only at hSw); go_simp <;> rfl
                    simp only [Act.put, List.setIfInBounds_toArray, List.set_cons_zero, List.set_cons_succ]
                    refine wpAnyH_take (i := 3) (v := ?b3v) (by simp only [List.getElem?_toArray, List.getElem?_cons_succ, List.getElem?_cons_zero] <;> rfl) (by kernel_rfl) (by kernel_rfl) (by kernel_rfl) (by exact fun _ _ _ h => h) (Or.inl ⟨by rfl, ?b3y⟩) hHeld ?b3r
                    case b3y => intro w hSw; (try dsimp only at hSw); go_simp <;> rfl
                    simp only [Act.put, List.setIfInBounds_toArray, List.set_cons_zero, List.set_cons_succ]
                    refine wpAnyH_take (i := 4) (v := ?b4v) (by simp only [List.getElem?_toArray, List.getElem?_cons_succ, List.getElem?_cons_zero] <;> rfl) (by kernel_rfl) (by kernel_rfl) (by kernel_rfl) (by exact fun _ _ _ h => h) (Or.inl ⟨by rfl, ?b4y⟩) hHeld ?b4r
                    case b4y => intro w hSw; (try dsimp only at hSw); go_simp <;> rfl
                    simp only [Act.put, List.setIfInBounds_toArray, List.set_cons_zero, List.set_cons_succ]
                    refine wpAnyH_take (i := 5) (v := ?b5v) (by simp only [List.getElem?_toArray, List.getElem?_cons_succ, List.getElem?_cons_zero] <;> rfl) (by kernel_rfl) (by kernel_rfl) (by kernel_rfl) (by exact fun _ _ _ h => h) (Or.inl ⟨by rfl, ?b5y⟩) hHeld ?b5r
                    case b5y => intro w hSw; (try dsimp only at hSw); go_simp <;> rfl
                    simp only [Act.put, List.setIfInBounds_toArray, List.set_cons_zero, List.set_cons_succ]
                    refine wpAnyH_take (i := 6) (v := ?b6v) (by simp only [List.getElem?_toArray, List.getElem?_cons_succ, List.getElem?_cons_zero] <;> rfl) (by kernel_rfl) (by kernel_rfl) (by kernel_rfl) (by exact fun _ _ _ h => h) (Or.inl ⟨by rfl, ?b6y⟩) hHeld ?b6r
                    case b6y => intro w hSw; (try dsimp only at hSw); go_simp <;> rfl
                    simp only [Act.put, List.setIfInBounds_toArray, List.set_cons_zero, List.set_cons_succ]
                    refine wpAnyH_take (i := 7) (v := ?b7v) (by simp only [List.getElem?_toArray, List.getElem?_cons_succ, List.getElem?_cons_zero] <;> rfl) (by kernel_rfl) (by kernel_rfl) (by kernel_rfl) (by exact fun _ _ _ h => h) (Or.inl ⟨by rfl, ?b7y⟩) hHeld ?b7r
                    case b7y => intro w hSw; (try dsimp only at hSw); go_simp <;> rfl
                    simp only [Act.put, List.setIfInBounds_toArray, List.set_cons_zero, List.set_cons_succ]
                    refine wpAnyH_take (i := 8) (v := ?b8v) (by simp only [List.getElem?_toArray, List.getElem?_cons_succ, List.getElem?_cons_zero] <;> rfl) (by kernel_rfl) (by kernel_rfl) (by kernel_rfl) (by exact fun _ _ _ h => h) (Or.inl ⟨by rfl, ?b8y⟩) hHeld ?b8r
                    case b8y => intro w hSw; (try dsimp only at hSw); go_simp <;> rfl
                    simp only [Act.put, List.setIfInBounds_toArray, List.set_cons_zero, List.set_cons_succ]
                    refine wpAnyH_take (i := 9) (v := ?b9v) (by simp only [List.getElem?_toArray, List.getElem?_cons_succ, List.getElem?_cons_zero] <;> rfl) (by kernel_rfl) (by kernel_rfl) (by kernel_rfl) (by exact fun _ _ _ h => h) (Or.inl ⟨by rfl, ?b9y⟩) hHeld ?b9r
                    case b9y => intro w hSw; (try dsimp only at hSw); go_simp <;> rfl
                    simp only [Act.put, List.setIfInBounds_toArray, List.set_cons_zero, List.set_cons_succ]
                    refine wpAnyH_take (i := 10) (v := ?b10v) (by simp only [List.getElem?_toArray, List.getElem?_cons_succ, List.getElem?_cons_zero] <;> rfl) (by kernel_rfl) (by kernel_rfl) (by kernel_rfl) (by exact fun _ _ _ h => h) (Or.inl ⟨by rfl, ?b10y⟩) hHeld ?b10r
                    case b10y => intro w hSw; (try dsimp only at hSw); go_simp <;> rfl
                    simp only [Act.put, List.setIfInBounds_toArray, List.set_cons_zero, List.set_cons_succ]
                    refine wpAnyH_take (i := 11) (v := ?b11v) (by simp only [List.getElem?_toArray, List.getElem?_cons_succ, List.getElem?_cons_zero] <;> rfl) (by kernel_rfl) (by kernel_rfl) (by kernel_rfl) (by exact fun _ _ _ h => h) (Or.inl ⟨by rfl, ?b11y⟩) hHeld ?b11r
                    case b11y => intro w hSw; (try dsimp only at hSw); go_simp <;> rfl
                    simp only [Act.put, List.setIfInBounds_toArray, List.set_cons_zero, List.set_cons_succ]
                    refine wpAnyH_ready (rs := [12]) (by kernel_rfl) (by simp) ?_
                    refine AllReadyH.cons (by simp only [List.getElem?_toArray, List.getElem?_cons_succ, List.getElem?_cons_zero] <;> rfl) (fun K hK => ?_) AllReadyH.nil
                    go_simp
                    refine (y1 _ (Keep.refl _ _).drew).mono ?_
                    rintro e w3 ⟨rfl, kx⟩
                    have kw3 : Keep0 wr w3 := ((Keep.refl _ wr).drew).trans kx
                    clear kx
                    go_wp2_with fail
                    refine hK.out _ _ ⟨kw3.cell xj0 (fun f => f), kw3.cell xj1 (fun f => f), kw3.cell xj2 (fun f => f), kw3.cell xj3 (fun f => f), kw3.cell xk0 (fun f => f), kw3.cell xk1 (fun f => f), kw3.cell xk2 (fun f => f), kw3.cell xk3 (fun f => f)⟩ (fun hHeld => ?_)
                    clear hK K
                    refine wpAnyH_take (i := 13) (v := ?b12v) (by simp only [List.getElem?_toArray, List.getElem?_cons_succ, List.getElem?_cons_zero] <;> rfl) (by kernel_rfl) (by kernel_rfl) (by kernel_rfl) (by exact fun _ _ _ h => h) (Or.inl ⟨by rfl, ?b12y⟩) hHeld ?b12r
                    case b12y => intro w hSw; (try dsimp only at hSw); go_simp <;> rfl
                    simp only [Act.put, List.setIfInBounds_toArray, List.set_cons_zero, List.set_cons_succ]
                    refine wpAnyH_take (i := 14) (v := ?b13v) (by simp only [List.getElem?_toArray, List.getElem?_cons_succ, List.getElem?_cons_zero] <;> rfl) (by kernel_rfl) (by kernel_rfl) (by kernel_rfl) (by exact fun _ _ _ h => h) (Or.inl ⟨by rfl, ?b13y⟩) hHeld ?b13r
                    case b13y => intro w hSw; (try dsimp only at hSw); go_simp <;> rfl
                    simp only [Act.put, List.setIfInBounds_toArray, List.set_cons_zero, List.set_cons_succ]
                    refine wpAnyH_done (by kernel_rfl) ?_ _
                    have K3 := hK.trans kw3
                    have y2 := fun W (K : Keep0 w3 W) => y2 W (kw3.trans K)
                    have xj0 := kw3.cell xj0 (fun f => f)
                    have xj1 := kw3.cell xj1 (fun f => f)
                    have xj2 := kw3.cell xj2 (fun f => f)
                    have xj3 := kw3.cell xj3 (fun f => f)
                    have xk0 := kw3.cell xk0 (fun f => f)
                    have xk1 := kw3.cell xk1 (fun f => f)
                    have xk2 := kw3.cell xk2 (fun f => f)
                    have xk3 := kw3.cell xk3 (fun f => f)
                    have HOk2 : Hid (∀ W, Keep0 w3 W → W.ownsRow w.heap.size 3 1 (.slice vo0 vn0 vc0) O.length (numCells O)) := fun W K => HOk2.out W (kw3.trans K)
                    clear y1 kw3 hK hHeld
                    go_wp2_with fail
                    refine wp_region_held_drew (S := (fun W => W.cell? ⟨b, off + j * 4, none⟩ = some (.slice jo Y.c.length jc) ∧ W.cell? ⟨b, off + j * 4 + 1, none⟩ = some (.bool Y.d) ∧ W.cell? ⟨b, off + j * 4 + 2, none⟩ = some (.string Y.x.a) ∧ W.cell? ⟨b, off + j * 4 + 3, none⟩ = some (.int .u64 (Y.x.n : Int)) ∧ W.cell? ⟨b, off + k * 4, none⟩ = some (.slice ko Z.c.length kc) ∧ W.cell? ⟨b, off + k * 4 + 1, none⟩ = some (.bool Z.d) ∧ W.cell? ⟨b, off + k * 4 + 2, none⟩ = some (.string Z.x.a) ∧ W.cell? ⟨b, off + k * 4 + 3, none⟩ = some (.int .u64 (Z.x.n : Int)))) (by kernel_rfl) ⟨xj0, xj1, xj2, xj3, xk0, xk1, xk2, xk3⟩ (fun hHeld => ?_)
                    refine wpAnyH_take (i := 0) (v := ?bz0v) (by simp only [List.getElem?_toArray, List.getElem?_cons_zero] <;> rfl) (by kernel_rfl) (by kernel_rfl) (by kernel_rfl) (by exact fun _ _ _ h => h) (Or.inl ⟨by rfl, ?bz0y⟩) hHeld ?bz0r
                    case bz0y => intro w hSw; (try dsimp only at hSw); go_simp <;> rfl
                    simp only [Act.put, List.setIfInBounds_toArray, List.set_cons_zero, List.set_cons_succ]
                    refine wpAnyH_take (i := 1) (v := ?bz1v) (by simp only [List.getElem?_toArray, List.getElem?_cons_succ, List.getElem?_cons_zero] <;> rfl) (by kernel_rfl) (by kernel_rfl) (by kernel_rfl) (by exact fun _ _ _ h => h) (Or.inl ⟨by rfl, ?bz1y⟩) hHeld ?bz1r
                    case bz1y => intro w hSw; (try dsimp only at hSw); go_simp <;> rfl
                    simp only [Act.put, List.setIfInBounds_toArray, List.set_cons_zero, List.set_cons_succ]
                    refine wpAnyH_take (i := 2) (v := ?bz2v) (by simp only [List.getElem?_toArray, List.getElem?_cons_succ, List.getElem?_cons_zero] <;> rfl) (by kernel_rfl) (by kernel_rfl) (by kernel_rfl) (by exact fun _ _ _ h => h) (Or.inl ⟨by rfl, ?bz2y⟩) hHeld ?bz2r
                    case bz2y => intro w hSw; (try dsimp only at hSw); go_simp <;> rfl
                    simp only [Act.put, List.setIfInBounds_toArray, List.set_cons_zero, List.set_cons_succ]
                    refine wpAnyH_take (i := 3) (v := ?bz3v) (by simp only [List.getElem?_toArray, List.getElem?_cons_succ, List.getElem?_cons_zero] <;> rfl) (by kernel_rfl) (by kernel_rfl) (by kernel_rfl) (by exact fun _ _ _ h => h) (Or.inl ⟨by rfl, ?bz3y⟩) hHeld ?bz3r
                    case bz3y => intro w hSw; (try dsimp only at hSw); go_simp <;> rfl
                    simp only [Act.put, List.setIfInBounds_toArray, List.set_cons_zero, List.set_cons_succ]
                    refine wpAnyH_take (i := 4) (v := ?bz4v) (by simp only [List.getElem?_toArray, List.getElem?_cons_succ, List.getElem?_cons_zero] <;> rfl) (by kernel_rfl) (by kernel_rfl) (by kernel_rfl) (by exact fun _ _ _ h => h) (Or.inl ⟨by rfl, ?bz4y⟩) hHeld ?bz4r
                    case bz4y => intro w hSw; (try dsimp only at hSw); go_simp <;> rfl
                    simp only [Act.put, List.setIfInBounds_toArray, List.set_cons_zero, List.set_cons_succ]
                    refine wpAnyH_take (i := 5) (v := ?bz5v) (by simp only [List.getElem?_toArray, List.getElem?_cons_succ, List.getElem?_cons_zero] <;> rfl) (by kernel_rfl) (by kernel_rfl) (by kernel_rfl) (by exact fun _ _ _ h => h) (Or.inl ⟨by rfl, ?bz5y⟩) hHeld ?bz5r
                    case bz5y => intro w hSw; (try dsimp only at hSw); go_simp <;> rfl
                    simp only [Act.put, List.setIfInBounds_toArray, List.set_cons_zero, List.set_cons_succ]
                    refine wpAnyH_take (i := 6) (v := ?bz6v) (by simp only [List.getElem?_toArray, List.getElem?_cons_succ, List.getElem?_cons_zero] <;> rfl) (by kernel_rfl) (by kernel_rfl) (by kernel_rfl) (by exact fun _ _ _ h => h) (Or.inl ⟨by rfl, ?bz6y⟩) hHeld ?bz6r
                    case bz6y => intro w hSw; (try dsimp only at hSw); go_simp <;> rfl
                    simp only [Act.put, List.setIfInBounds_toArray, List.set_cons_zero, List.set_cons_succ]
                    refine wpAnyH_take (i := 7) (v := ?bz7v) (by simp only [List.getElem?_toArray, List.getElem?_cons_succ, List.getElem?_cons_zero] <;> rfl) (by kernel_rfl) (by kernel_rfl) (by kernel_rfl) (by exact fun _ _ _ h => h) (Or.inl ⟨by rfl, ?bz7y⟩) hHeld ?bz7r
                    case bz7y => intro w hSw; (try dsimp only at hSw); go_simp <;> rfl
                    simp only [Act.put, List.setIfInBounds_toArray, List.set_cons_zero, List.set_cons_succ]
                    refine wpAnyH_ready (rs := [8]) (by kernel_rfl) (by simp) ?_
                    refine AllReadyH.cons (by simp only [List.getElem?_toArray, List.getElem?_cons_succ, List.getElem?_cons_zero] <;> rfl) (fun K hK => ?_) AllReadyH.nil
                    go_simp
                    refine (y2 _ (Keep.refl _ _).drew).mono ?_
                    rintro e w5 ⟨rfl, kx⟩
                    have kw5 : Keep0 w3 w5 := ((Keep.refl _ w3).drew).trans kx
                    clear kx
                    go_wp2_with fail
                    refine hK.out _ _ ⟨kw5.cell xj0 (fun f => f), kw5.cell xj1 (fun f => f), kw5.cell xj2 (fun f => f), kw5.cell xj3 (fun f => f), kw5.cell xk0 (fun f => f), kw5.cell xk1 (fun f => f), kw5.cell xk2 (fun f => f), kw5.cell xk3 (fun f => f)⟩ (fun hHeld => ?_)
                    clear hK K
                    refine wpAnyH_take (i := 9) (v := ?bz8v) (by simp only [List.getElem?_toArray, List.getElem?_cons_succ, List.getElem?_cons_zero] <;> rfl) (by kernel_rfl) (by kernel_rfl) (by kernel_rfl) (by exact fun _ _ _ h => h) (Or.inl ⟨by rfl, ?bz8y⟩) hHeld ?bz8r
                    case bz8y => intro w hSw; (try dsimp only at hSw); go_simp <;> rfl
                    simp only [Act.put, List.setIfInBounds_toArray, List.set_cons_zero, List.set_cons_succ]
                    refine wpAnyH_take (i := 10) (v := undef) (by simp only [List.getElem?_toArray, List.getElem?_cons_succ, List.getElem?_cons_zero] <;> rfl) (by kernel_rfl) (by kernel_rfl) (by kernel_rfl) (by exact fun _ _ _ h => h) (Or.inr ⟨by rfl, rfl⟩) hHeld ?bz9r
                    simp only [Act.put, List.setIfInBounds_toArray, List.set_cons_zero, List.set_cons_succ]
                    refine wpAnyH_take (i := 11) (v := undef) (by simp only [List.getElem?_toArray, List.getElem?_cons_succ, List.getElem?_cons_zero] <;> rfl) (by kernel_rfl) (by kernel_rfl) (by kernel_rfl) (by exact fun _ _ _ h => h) (Or.inr ⟨by rfl, rfl⟩) hHeld ?bz10r
                    simp only [Act.put, List.setIfInBounds_toArray, List.set_cons_zero, List.set_cons_succ]
                    refine wpAnyH_take (i := 12) (v := undef) (by simp only [List.getElem?_toArray, List.getElem?_cons_succ, List.getElem?_cons_zero] <;> rfl) (by kernel_rfl) (by kernel_rfl) (by kernel_rfl) (by exact fun _ _ _ h => h) (Or.inr ⟨by rfl, rfl⟩) hHeld ?bz11r
                    simp only [Act.put, List.setIfInBounds_toArray, List.set_cons_zero, List.set_cons_succ]
                    refine wpAnyH_take (i := 13) (v := ?bz12v) (by simp only [List.getElem?_toArray, List.getElem?_cons_succ, List.getElem?_cons_zero] <;> rfl) (by kernel_rfl) (by kernel_rfl) (by kernel_rfl) (by exact fun _ _ _ h => h) (Or.inl ⟨by rfl, ?bz12y⟩) hHeld ?bz12r
                    case bz12y => intro w hSw; (try dsimp only at hSw); go_simp <;> rfl
                    simp only [Act.put, List.setIfInBounds_toArray, List.set_cons_zero, List.set_cons_succ]
                    refine wpAnyH_done (by kernel_rfl) ?_ _
                    have K5 := K3.trans kw5
                    have HOd : Hid (w5.ownsRow w.heap.size 3 1 (.slice vo0 vn0 vc0) O.length (numCells O)) := HOk2.out _ kw5
                    clear y2 kw5 K3 HOk2 hHeld
                    go_wp2
                    go_roundw
                    case rel => exact ⟨j + 1, false, by go_num, rfl, by omega, HP2, HOd, K5⟩
                    case measure => simp [intOf]; omega
                  | true =>
                    rw [hc2] at y2
                    by_cases hkl : k < j
                    · have HP2 : Hid (keepTo l k (j + 1) = p) := HN.out (fun h => h.2.2 ⟨hc2, hkl⟩)
                      have i7 : (k : Int) < (j : Int) := by omega
                      have i7' : decide ((k : Int) < (j : Int)) = true := decide_eq_true i7
                      clear HN HY hc1 hc2
                      go_wp2_with fail
                      refine wp_region_held_drew (S := (fun W => W.cell? ⟨b, off + j * 4, none⟩ = some (.slice jo Y.c.length jc) ∧ W.cell? ⟨b, off + j * 4 + 1, none⟩ = some (.bool Y.d) ∧ W.cell? ⟨b, off + j * 4 + 2, none⟩ = some (.string Y.x.a) ∧ W.cell? ⟨b, off + j * 4 + 3, none⟩ = some (.int .u64 (Y.x.n : Int)) ∧ W.cell? ⟨b, off + k * 4, none⟩ = some (.slice ko Z.c.length kc) ∧ W.cell? ⟨b, off + k * 4 + 1, none⟩ = some (.bool Z.d) ∧ W.cell? ⟨b, off + k * 4 + 2, none⟩ = some (.string Z.x.a) ∧ W.cell? ⟨b, off + k * 4 + 3, none⟩ = some (.int .u64 (Z.x.n : Int)))) (by kernel_rfl) ⟨xj0, xj1, xj2, xj3, xk0, xk1, xk2, xk3⟩ (fun hHeld => ?_)
                      refine wpAnyH_take (i := 0) (v := ?c0v) (by simp only [List.getElem?_toArray, List.getElem?_cons_zero] <;> rfl) (by kernel_rfl) (by kernel_rfl) (by kernel_rfl) (by exact fun _ _ _ h => h) (Or.inl ⟨by rfl, ?c0y⟩) hHeld ?c0r
                      case c0y => intro w hSw; (try dsimp only at hSw); go_simp <;> rfl
                      simp only [Act.put, List.setIfInBounds_toArray, List.set_cons_zero, List.set_cons_succ]
                      refine wpAnyH_take (i := 1) (v := ?c1v) (by simp only [List.getElem?_toArray, List.getElem?_cons_succ, List.getElem?_cons_zero] <;> rfl) (by kernel_rfl) (by kernel_rfl) (by kernel_rfl) (by exact fun _ _ _ h => h) (Or.inl ⟨by rfl, ?c1y⟩) hHeld ?c1r
                      case c1y => intro w hSw; (try dsimp only at hSw); go_simp <;> rfl
                      simp only [Act.put, List.setIfInBounds_toArray, List.set_cons_zero, List.set_cons_succ]
                      refine wpAnyH_take (i := 2) (v := ?c2v) (by simp only [List.getElem?_toArray, List.getElem?_cons_succ, List.getElem?_cons_zero] <;> rfl) (by kernel_rfl) (by kernel_rfl) (by kernel_rfl) (by exact fun _ _ _ h => h) (Or.inl ⟨by rfl, ?c2y⟩) hHeld ?c2r
                      case c2y => intro w hSw; (try dsimp only at hSw); go_simp <;> rfl
                      simp only [Act.put, List.setIfInBounds_toArray, List.set_cons_zero, List.set_cons_succ]
                      refine wpAnyH_take (i := 3) (v := ?c3v) (by simp only [List.getElem?_toArray, List.getElem?_cons_succ, List.getElem?_cons_zero] <;> rfl) (by kernel_rfl) (by kernel_rfl) (by kernel_rfl) (by exact fun _ _ _ h => h) (Or.inl ⟨by rfl, ?c3y⟩) hHeld ?c3r
                      case c3y => intro w hSw; (try dsimp only at hSw); go_simp <;> rfl
                      simp only [Act.put, List.setIfInBounds_toArray, List.set_cons_zero, List.set_cons_succ]
                      refine wpAnyH_take (i := 4) (v := ?c4v) (by simp only [List.getElem?_toArray, List.getElem?_cons_succ, List.getElem?_cons_zero] <;> rfl) (by kernel_rfl) (by kernel_rfl) (by kernel_rfl) (by exact fun _ _ _ h => h) (Or.inl ⟨by rfl, ?c4y⟩) hHeld ?c4r
                      case c4y => intro w hSw; (try dsimp only at hSw); go_simp <;> rfl
                      simp only [Act.put, List.setIfInBounds_toArray, List.set_cons_zero, List.set_cons_succ]
                      refine wpAnyH_take (i := 5) (v := ?c5v) (by simp only [List.getElem?_toArray, List.getElem?_cons_succ, List.getElem?_cons_zero] <;> rfl) (by kernel_rfl) (by kernel_rfl) (by kernel_rfl) (by exact fun _ _ _ h => h) (Or.inl ⟨by rfl, ?c5y⟩) hHeld ?c5r
                      case c5y => intro w hSw; (try dsimp only at hSw); go_simp <;> rfl
                      simp only [Act.put, List.setIfInBounds_toArray, List.set_cons_zero, List.set_cons_succ]
                      refine wpAnyH_take (i := 6) (v := ?c6v) (by simp only [List.getElem?_toArray, List.getElem?_cons_succ, List.getElem?_cons_zero] <;> rfl) (by kernel_rfl) (by kernel_rfl) (by kernel_rfl) (by exact fun _ _ _ h => h) (Or.inl ⟨by rfl, ?c6y⟩) hHeld ?c6r
                      case c6y => intro w hSw; (try dsimp only at hSw); go_simp <;> rfl
                      simp only [Act.put, List.setIfInBounds_toArray, List.set_cons_zero, List.set_cons_succ]
                      refine wpAnyH_take (i := 7) (v := ?c7v) (by simp only [List.getElem?_toArray, List.getElem?_cons_succ, List.getElem?_cons_zero] <;> rfl) (by kernel_rfl) (by kernel_rfl) (by kernel_rfl) (by exact fun _ _ _ h => h) (Or.inl ⟨by rfl, ?c7y⟩) hHeld ?c7r
                      case c7y => intro w hSw; (try dsimp only at hSw); go_simp <;> rfl
                      simp only [Act.put, List.setIfInBounds_toArray, List.set_cons_zero, List.set_cons_succ]
                      refine wpAnyH_take (i := 8) (v := ?c8v) (by simp only [List.getElem?_toArray, List.getElem?_cons_succ, List.getElem?_cons_zero] <;> rfl) (by kernel_rfl) (by kernel_rfl) (by kernel_rfl) (by exact fun _ _ _ h => h) (Or.inl ⟨by rfl, ?c8y⟩) hHeld ?c8r
                      case c8y => intro w hSw; (try dsimp only at hSw); go_simp <;> rfl
                      simp only [Act.put, List.setIfInBounds_toArray, List.set_cons_zero, List.set_cons_succ]
                      refine wpAnyH_take (i := 9) (v := ?c9v) (by simp only [List.getElem?_toArray, List.getElem?_cons_succ, List.getElem?_cons_zero] <;> rfl) (by kernel_rfl) (by kernel_rfl) (by kernel_rfl) (by exact fun _ _ _ h => h) (Or.inl ⟨by rfl, ?c9y⟩) hHeld ?c9r
                      case c9y => intro w hSw; (try dsimp only at hSw); go_simp <;> rfl
                      simp only [Act.put, List.setIfInBounds_toArray, List.set_cons_zero, List.set_cons_succ]
                      refine wpAnyH_take (i := 10) (v := ?c10v) (by simp only [List.getElem?_toArray, List.getElem?_cons_succ, List.getElem?_cons_zero] <;> rfl) (by kernel_rfl) (by kernel_rfl) (by kernel_rfl) (by exact fun _ _ _ h => h) (Or.inl ⟨by rfl, ?c10y⟩) hHeld ?c10r
                      case c10y => intro w hSw; (try dsimp only at hSw); go_simp <;> rfl
                      simp only [Act.put, List.setIfInBounds_toArray, List.set_cons_zero, List.set_cons_succ]
                      refine wpAnyH_take (i := 11) (v := ?c11v) (by simp only [List.getElem?_toArray, List.getElem?_cons_succ, List.getElem?_cons_zero] <;> rfl) (by kernel_rfl) (by kernel_rfl) (by kernel_rfl) (by exact fun _ _ _ h => h) (Or.inl ⟨by rfl, ?c11y⟩) hHeld ?c11r
                      case c11y => intro w hSw; (try dsimp only at hSw); go_simp <;> rfl
                      simp only [Act.put, List.setIfInBounds_toArray, List.set_cons_zero, List.set_cons_succ]
                      refine wpAnyH_ready (rs := [12]) (by kernel_rfl) (by simp) ?_
                      refine AllReadyH.cons (by simp only [List.getElem?_toArray, List.getElem?_cons_succ, List.getElem?_cons_zero] <;> rfl) (fun K hK => ?_) AllReadyH.nil
                      go_simp
                      refine (y1 _ (Keep.refl _ _).drew).mono ?_
                      rintro e w3 ⟨rfl, kx⟩
                      have kw3 : Keep0 wr w3 := ((Keep.refl _ wr).drew).trans kx
                      clear kx
                      go_wp2_with fail
                      refine hK.out _ _ ⟨kw3.cell xj0 (fun f => f), kw3.cell xj1 (fun f => f), kw3.cell xj2 (fun f => f), kw3.cell xj3 (fun f => f), kw3.cell xk0 (fun f => f), kw3.cell xk1 (fun f => f), kw3.cell xk2 (fun f => f), kw3.cell xk3 (fun f => f)⟩ (fun hHeld => ?_)
                      clear hK K
                      refine wpAnyH_take (i := 13) (v := ?c12v) (by simp only [List.getElem?_toArray, List.getElem?_cons_succ, List.getElem?_cons_zero] <;> rfl) (by kernel_rfl) (by kernel_rfl) (by kernel_rfl) (by exact fun _ _ _ h => h) (Or.inl ⟨by rfl, ?c12y⟩) hHeld ?c12r
                      case c12y => intro w hSw; (try dsimp only at hSw); go_simp <;> rfl
                      simp only [Act.put, List.setIfInBounds_toArray, List.set_cons_zero, List.set_cons_succ]
                      refine wpAnyH_take (i := 14) (v := ?c13v) (by simp only [List.getElem?_toArray, List.getElem?_cons_succ, List.getElem?_cons_zero] <;> rfl) (by kernel_rfl) (by kernel_rfl) (by kernel_rfl) (by exact fun _ _ _ h => h) (Or.inl ⟨by rfl, ?c13y⟩) hHeld ?c13r
                      case c13y => intro w hSw; (try dsimp only at hSw); go_simp <;> rfl
                      simp only [Act.put, List.setIfInBounds_toArray, List.set_cons_zero, List.set_cons_succ]
                      refine wpAnyH_done (by kernel_rfl) ?_ _
                      have K3 := hK.trans kw3
                      have y2 := fun W (K : Keep0 w3 W) => y2 W (kw3.trans K)
                      have xj0 := kw3.cell xj0 (fun f => f)
                      have xj1 := kw3.cell xj1 (fun f => f)
                      have xj2 := kw3.cell xj2 (fun f => f)
                      have xj3 := kw3.cell xj3 (fun f => f)
                      have xk0 := kw3.cell xk0 (fun f => f)
                      have xk1 := kw3.cell xk1 (fun f => f)
                      have xk2 := kw3.cell xk2 (fun f => f)
                      have xk3 := kw3.cell xk3 (fun f => f)
                      have HOk2 : Hid (∀ W, Keep0 w3 W → W.ownsRow w.heap.size 3 1 (.slice vo0 vn0 vc0) O.length (numCells O)) := fun W K => HOk2.out W (kw3.trans K)
                      clear y1 kw3 hK hHeld
                      go_wp2_with fail
                      refine wp_region_held_drew (S := (fun W => W.cell? ⟨b, off + j * 4, none⟩ = some (.slice jo Y.c.length jc) ∧ W.cell? ⟨b, off + j * 4 + 1, none⟩ = some (.bool Y.d) ∧ W.cell? ⟨b, off + j * 4 + 2, none⟩ = some (.string Y.x.a) ∧ W.cell? ⟨b, off + j * 4 + 3, none⟩ = some (.int .u64 (Y.x.n : Int)) ∧ W.cell? ⟨b, off + k * 4, none⟩ = some (.slice ko Z.c.length kc) ∧ W.cell? ⟨b, off + k * 4 + 1, none⟩ = some (.bool Z.d) ∧ W.cell? ⟨b, off + k * 4 + 2, none⟩ = some (.string Z.x.a) ∧ W.cell? ⟨b, off + k * 4 + 3, none⟩ = some (.int .u64 (Z.x.n : Int)))) (by kernel_rfl) ⟨xj0, xj1, xj2, xj3, xk0, xk1, xk2, xk3⟩ (fun hHeld => ?_)
                      refine wpAnyH_take (i := 0) (v := ?cz0v) (by simp only [List.getElem?_toArray, List.getElem?_cons_zero] <;> rfl) (by kernel_rfl) (by kernel_rfl) (by kernel_rfl) (by exact fun _ _ _ h => h) (Or.inl ⟨by rfl, ?cz0y⟩) hHeld ?cz0r
                      case cz0y => intro w hSw; (try dsimp only at hSw); go_simp <;> rfl
                      simp only [Act.put, List.setIfInBounds_toArray, List.set_cons_zero, List.set_cons_succ]
                      refine wpAnyH_take (i := 1) (v := ?cz1v) (by simp only [List.getElem?_toArray, List.getElem?_cons_succ, List.getElem?_cons_zero] <;> rfl) (by kernel_rfl) (by kernel_rfl) (by kernel_rfl) (by exact fun _ _ _ h => h) (Or.inl ⟨by rfl, ?cz1y⟩) hHeld ?cz1r
                      case cz1y => intro w hSw; (try dsimp only at hSw); go_simp <;> rfl
                      simp only [Act.put, List.setIfInBounds_toArray, List.set_cons_zero, List.set_cons_succ]
                      refine wpAnyH_take (i := 2) (v := ?cz2v) (by simp only [List.getElem?_toArray, List.getElem?_cons_succ, List.getElem?_cons_zero] <;> rfl) (by kernel_rfl) (by kernel_rfl) (by kernel_rfl) (by exact fun _ _ _ h => h) (Or.inl ⟨by rfl, ?cz2y⟩) hHeld ?cz2r
                      case cz2y => intro w hSw; (try dsimp only at hSw); go_simp <;> rfl
                      simp only [Act.put, List.setIfInBounds_toArray, List.set_cons_zero, List.set_cons_succ]
                      refine wpAnyH_take (i := 3) (v := ?cz3v) (by simp only [List.getElem?_toArray, List.getElem?_cons_succ, List.getElem?_cons_zero] <;> rfl) (by kernel_rfl) (by kernel_rfl) (by kernel_rfl) (by exact fun _ _ _ h => h) (Or.inl ⟨by rfl, ?cz3y⟩) hHeld ?cz3r
                      case cz3y => intro w hSw; (try dsimp only at hSw); go_simp <;> rfl
                      simp only [Act.put, List.setIfInBounds_toArray, List.set_cons_zero, List.set_cons_succ]
                      refine wpAnyH_take (i := 4) (v := ?cz4v) (by simp only [List.getElem?_toArray, List.getElem?_cons_succ, List.getElem?_cons_zero] <;> rfl) (by kernel_rfl) (by kernel_rfl) (by kernel_rfl) (by exact fun _ _ _ h => h) (Or.inl ⟨by rfl, ?cz4y⟩) hHeld ?cz4r
                      case cz4y => intro w hSw; (try dsimp only at hSw); go_simp <;> rfl
                      simp only [Act.put, List.setIfInBounds_toArray, List.set_cons_zero, List.set_cons_succ]
                      refine wpAnyH_take (i := 5) (v := ?cz5v) (by simp only [List.getElem?_toArray, List.getElem?_cons_succ, List.getElem?_cons_zero] <;> rfl) (by kernel_rfl) (by kernel_rfl) (by kernel_rfl) (by exact fun _ _ _ h => h) (Or.inl ⟨by rfl, ?cz5y⟩) hHeld ?cz5r
                      case cz5y => intro w hSw; (try dsimp only at hSw); go_simp <;> rfl
                      simp only [Act.put, List.setIfInBounds_toArray, List.set_cons_zero, List.set_cons_succ]
                      refine wpAnyH_take (i := 6) (v := ?cz6v) (by simp only [List.getElem?_toArray, List.getElem?_cons_succ, List.getElem?_cons_zero] <;> rfl) (by kernel_rfl) (by kernel_rfl) (by kernel_rfl) (by exact fun _ _ _ h => h) (Or.inl ⟨by rfl, ?cz6y⟩) hHeld ?cz6r
                      case cz6y => intro w hSw; (try dsimp only at hSw); go_simp <;> rfl
                      simp only [Act.put, List.setIfInBounds_toArray, List.set_cons_zero, List.set_cons_succ]
                      refine wpAnyH_take (i := 7) (v := ?cz7v) (by simp only [List.getElem?_toArray, List.getElem?_cons_succ, List.getElem?_cons_zero] <;> rfl) (by kernel_rfl) (by kernel_rfl) (by kernel_rfl) (by exact fun _ _ _ h => h) (Or.inl ⟨by rfl, ?cz7y⟩) hHeld ?cz7r
                      case cz7y => intro w hSw; (try dsimp only at hSw); go_simp <;> rfl
                      simp only [Act.put, List.setIfInBounds_toArray, List.set_cons_zero, List.set_cons_succ]
                      refine wpAnyH_ready (rs := [8]) (by kernel_rfl) (by simp) ?_
                      refine AllReadyH.cons (by simp only [List.getElem?_toArray, List.getElem?_cons_succ, List.getElem?_cons_zero] <;> rfl) (fun K hK => ?_) AllReadyH.nil
                      go_simp
                      refine (y2 _ (Keep.refl _ _).drew).mono ?_
                      rintro e w5 ⟨rfl, kx⟩
                      have kw5 : Keep0 w3 w5 := ((Keep.refl _ w3).drew).trans kx
                      clear kx
                      go_wp2_with fail
                      refine hK.out _ _ ⟨kw5.cell xj0 (fun f => f), kw5.cell xj1 (fun f => f), kw5.cell xj2 (fun f => f), kw5.cell xj3 (fun f => f), kw5.cell xk0 (fun f => f), kw5.cell xk1 (fun f => f), kw5.cell xk2 (fun f => f), kw5.cell xk3 (fun f => f)⟩ (fun hHeld => ?_)
                      clear hK K
                      refine wpAnyH_take (i := 9) (v := ?cz8v) (by simp only [List.getElem?_toArray, List.getElem?_cons_succ, List.getElem?_cons_zero] <;> rfl) (by kernel_rfl) (by kernel_rfl) (by kernel_rfl) (by exact fun _ _ _ h => h) (Or.inl ⟨by rfl, ?cz8y⟩) hHeld ?cz8r
                      case cz8y => intro w hSw; (try dsimp only at hSw); go_simp <;> rfl
                      simp only [Act.put, List.setIfInBounds_toArray, List.set_cons_zero, List.set_cons_succ]
                      refine wpAnyH_take (i := 10) (v := ?cz9v) (by simp only [List.getElem?_toArray, List.getElem?_cons_succ, List.getElem?_cons_zero] <;> rfl) (by kernel_rfl) (by kernel_rfl) (by kernel_rfl) (by exact fun _ _ _ h => h) (Or.inl ⟨by rfl, ?cz9y⟩) hHeld ?cz9r
                      case cz9y => intro w hSw; (try dsimp only at hSw); go_simp <;> rfl
                      simp only [Act.put, List.setIfInBounds_toArray, List.set_cons_zero, List.set_cons_succ]
                      refine wpAnyH_take (i := 11) (v := ?cz10v) (by simp only [List.getElem?_toArray, List.getElem?_cons_succ, List.getElem?_cons_zero] <;> rfl) (by kernel_rfl) (by kernel_rfl) (by kernel_rfl) (by exact fun _ _ _ h => h) (Or.inl ⟨by rfl, ?cz10y⟩) hHeld ?cz10r
                      case cz10y => intro w hSw; (try dsimp only at hSw); go_simp <;> rfl
                      simp only [Act.put, List.setIfInBounds_toArray, List.set_cons_zero, List.set_cons_succ]
                      refine wpAnyH_take (i := 12) (v := ?cz11v) (by simp only [List.getElem?_toArray, List.getElem?_cons_succ, List.getElem?_cons_zero] <;> rfl) (by kernel_rfl) (by kernel_rfl) (by kernel_rfl) (by exact fun _ _ _ h => h) (Or.inl ⟨by rfl, ?cz11y⟩) hHeld ?cz11r
                      case cz11y => intro w hSw; (try dsimp only at hSw); go_simp <;> rfl
                      simp only [Act.put, List.setIfInBounds_toArray, List.set_cons_zero, List.set_cons_succ]
                      refine wpAnyH_take (i := 13) (v := ?cz12v) (by simp only [List.getElem?_toArray, List.getElem?_cons_succ, List.getElem?_cons_zero] <;> rfl) (by kernel_rfl) (by kernel_rfl) (by kernel_rfl) (by exact fun _ _ _ h => h) (Or.inl ⟨by rfl, ?cz12y⟩) hHeld ?cz12r
                      case cz12y => intro w hSw; (try dsimp only at hSw); go_simp <;> rfl
                      simp only [Act.put, List.setIfInBounds_toArray, List.set_cons_zero, List.set_cons_succ]
                      refine wpAnyH_done (by kernel_rfl) ?_ _
                      have K5 := K3.trans kw5
                      have HOd : Hid (w5.ownsRow w.heap.size 3 1 (.slice vo0 vn0 vc0) O.length (numCells O)) := HOk2.out _ kw5
                      clear y2 kw5 K3 HOk2 hHeld
                      go_wp2
                      go_roundw
                      case rel => exact ⟨j + 1, p, by go_num, rfl, by omega, HP2, HOd, K5⟩
                      case measure => simp [intOf]; omega
                    · have HP2 : Hid (keepTo l k (j + 1) = false) := HY.out ⟨fun e => hjk e.symm, hc1, fun h => hkl h.2⟩
                      have i7 : ¬ (k : Int) < (j : Int) := by omega
                      have i7' : decide ((k : Int) < (j : Int)) = false := decide_eq_false i7
                      clear HN HY hc1 hc2
                      go_wp2_with fail
                      refine wp_region_held_drew (S := (fun W => W.cell? ⟨b, off + j * 4, none⟩ = some (.slice jo Y.c.length jc) ∧ W.cell? ⟨b, off + j * 4 + 1, none⟩ = some (.bool Y.d) ∧ W.cell? ⟨b, off + j * 4 + 2, none⟩ = some (.string Y.x.a) ∧ W.cell? ⟨b, off + j * 4 + 3, none⟩ = some (.int .u64 (Y.x.n : Int)) ∧ W.cell? ⟨b, off + k * 4, none⟩ = some (.slice ko Z.c.length kc) ∧ W.cell? ⟨b, off + k * 4 + 1, none⟩ = some (.bool Z.d) ∧ W.cell? ⟨b, off + k * 4 + 2, none⟩ = some (.string Z.x.a) ∧ W.cell? ⟨b, off + k * 4 + 3, none⟩ = some (.int .u64 (Z.x.n : Int)))) (by kernel_rfl) ⟨xj0, xj1, xj2, xj3, xk0, xk1, xk2, xk3⟩ (fun hHeld => ?_)
                      refine wpAnyH_take (i := 0) (v := ?d0v) (by simp only [List.getElem?_toArray, List.getElem?_cons_zero] <;> rfl) (by kernel_rfl) (by kernel_rfl) (by kernel_rfl) (by exact fun _ _ _ h => h) (Or.inl ⟨by rfl, ?d0y⟩) hHeld ?d0r
                      case d0y => intro w hSw; (try dsimp only at hSw); go_simp <;> rfl
                      simp only [Act.put, List.setIfInBounds_toArray, List.set_cons_zero, List.set_cons_succ]
                      refine wpAnyH_take (i := 1) (v := ?d1v) (by simp only [List.getElem?_toArray, List.getElem?_cons_succ, List.getElem?_cons_zero] <;> rfl) (by kernel_rfl) (by kernel_rfl) (by kernel_rfl) (by exact fun _ _ _ h => h) (Or.inl ⟨by rfl, ?d1y⟩) hHeld ?d1r
                      case d1y => intro w hSw; (try dsimp only at hSw); go_simp <;> rfl
                      simp only [Act.put, List.setIfInBounds_toArray, List.set_cons_zero, List.set_cons_succ]
                      refine wpAnyH_take (i := 2) (v := ?d2v) (by simp only [List.getElem?_toArray, List.getElem?_cons_succ, List.getElem?_cons_zero] <;> rfl) (by kernel_rfl) (by kernel_rfl) (by kernel_rfl) (by exact fun _ _ _ h => h) (Or.inl ⟨by rfl, ?d2y⟩) hHeld ?d2r
                      case d2y => intro w hSw; (try dsimp only at hSw); go_simp <;> rfl
                      simp only [Act.put, List.setIfInBounds_toArray, List.set_cons_zero, List.set_cons_succ]
                      refine wpAnyH_take (i := 3) (v := ?d3v) (by simp only [List.getElem?_toArray, List.getElem?_cons_succ, List.getElem?_cons_zero] <;> rfl) (by kernel_rfl) (by kernel_rfl) (by kernel_rfl) (by exact fun _ _ _ h => h) (Or.inl ⟨by rfl, ?d3y⟩) hHeld ?d3r
                      case d3y => intro w hSw; (try dsimp only at hSw); go_simp <;> rfl
                      simp only [Act.put, List.setIfInBounds_toArray, List.set_cons_zero, List.set_cons_succ]
                      refine wpAnyH_take (i := 4) (v := ?d4v) (by simp only [List.getElem?_toArray, List.getElem?_cons_succ, List.getElem?_cons_zero] <;> rfl) (by kernel_rfl) (by kernel_rfl) (by kernel_rfl) (by exact fun _ _ _ h => h) (Or.inl ⟨by rfl, ?d4y⟩) hHeld ?d4r
                      case d4y => intro w hSw; (try dsimp only at hSw); go_simp <;> rfl
                      simp only [Act.put, List.setIfInBounds_toArray, List.set_cons_zero, List.set_cons_succ]
                      refine wpAnyH_take (i := 5) (v := ?d5v) (by simp only [List.getElem?_toArray, List.getElem?_cons_succ, List.getElem?_cons_zero] <;> rfl) (by kernel_rfl) (by kernel_rfl) (by kernel_rfl) (by exact fun _ _ _ h => h) (Or.inl ⟨by rfl, ?d5y⟩) hHeld ?d5r
                      case d5y => intro w hSw; (try dsimp only at hSw); go_simp <;> rfl
                      simp only [Act.put, List.setIfInBounds_toArray, List.set_cons_zero, List.set_cons_succ]
                      refine wpAnyH_take (i := 6) (v := ?d6v) (by simp only [List.getElem?_toArray, List.getElem?_cons_succ, List.getElem?_cons_zero] <;> rfl) (by kernel_rfl) (by kernel_rfl) (by kernel_rfl) (by exact fun _ _ _ h => h) (Or.inl ⟨by rfl, ?d6y⟩) hHeld ?d6r
                      case d6y => intro w hSw; (try dsimp only at hSw); go_simp <;> rfl
                      simp only [Act.put, List.setIfInBounds_toArray, List.set_cons_zero, List.set_cons_succ]
                      refine wpAnyH_take (i := 7) (v := ?d7v) (by simp only [List.getElem?_toArray, List.getElem?_cons_succ, List.getElem?_cons_zero] <;> rfl) (by kernel_rfl) (by kernel_rfl) (by kernel_rfl) (by exact fun _ _ _ h => h) (Or.inl ⟨by rfl, ?d7y⟩) hHeld ?d7r
                      case d7y => intro w hSw; (try dsimp only at hSw); go_simp <;> rfl
                      simp only [Act.put, List.setIfInBounds_toArray, List.set_cons_zero, List.set_cons_succ]
                      refine wpAnyH_take (i := 8) (v := ?d8v) (by simp only [List.getElem?_toArray, List.getElem?_cons_succ, List.getElem?_cons_zero] <;> rfl) (by kernel_rfl) (by kernel_rfl) (by kernel_rfl) (by exact fun _ _ _ h => h) (Or.inl ⟨by rfl, ?d8y⟩) hHeld ?d8r
                      case d8y => intro w hSw; (try dsimp only at hSw); go_simp <;> rfl
                      simp only [Act.put, List.setIfInBounds_toArray, List.set_cons_zero, List.set_cons_succ]
                      refine wpAnyH_take (i := 9) (v := ?d9v) (by simp only [List.getElem?_toArray, List.getElem?_cons_succ, List.getElem?_cons_zero] <;> rfl) (by kernel_rfl) (by kernel_rfl) (by kernel_rfl) (by exact fun _ _ _ h => h) (Or.inl ⟨by rfl, ?d9y⟩) hHeld ?d9r
                      case d9y => intro w hSw; (try dsimp only at hSw); go_simp <;> rfl
                      simp only [Act.put, List.setIfInBounds_toArray, List.set_cons_zero, List.set_cons_succ]
                      refine wpAnyH_take (i := 10) (v := ?d10v) (by simp only [List.getElem?_toArray, List.getElem?_cons_succ, List.getElem?_cons_zero] <;> rfl) (by kernel_rfl) (by kernel_rfl) (by kernel_rfl) (by exact fun _ _ _ h => h) (Or.inl ⟨by rfl, ?d10y⟩) hHeld ?d10r
                      case d10y => intro w hSw; (try dsimp only at hSw); go_simp <;> rfl
                      simp only [Act.put, List.setIfInBounds_toArray, List.set_cons_zero, List.set_cons_succ]
                      refine wpAnyH_take (i := 11) (v := ?d11v) (by simp only [List.getElem?_toArray, List.getElem?_cons_succ, List.getElem?_cons_zero] <;> rfl) (by kernel_rfl) (by kernel_rfl) (by kernel_rfl) (by exact fun _ _ _ h => h) (Or.inl ⟨by rfl, ?d11y⟩) hHeld ?d11r
                      case d11y => intro w hSw; (try dsimp only at hSw); go_simp <;> rfl
                      simp only [Act.put, List.setIfInBounds_toArray, List.set_cons_zero, List.set_cons_succ]
                      refine wpAnyH_ready (rs := [12]) (by kernel_rfl) (by simp) ?_
                      refine AllReadyH.cons (by simp only [List.getElem?_toArray, List.getElem?_cons_succ, List.getElem?_cons_zero] <;> rfl) (fun K hK => ?_) AllReadyH.nil
                      go_simp
                      refine (y1 _ (Keep.refl _ _).drew).mono ?_
                      rintro e w3 ⟨rfl, kx⟩
                      have kw3 : Keep0 wr w3 := ((Keep.refl _ wr).drew).trans kx
                      clear kx
                      go_wp2_with fail
                      refine hK.out _ _ ⟨kw3.cell xj0 (fun f => f), kw3.cell xj1 (fun f => f), kw3.cell xj2 (fun f => f), kw3.cell xj3 (fun f => f), kw3.cell xk0 (fun f => f), kw3.cell xk1 (fun f => f), kw3.cell xk2 (fun f => f), kw3.cell xk3 (fun f => f)⟩ (fun hHeld => ?_)
                      clear hK K
                      refine wpAnyH_take (i := 13) (v := ?d12v) (by simp only [List.getElem?_toArray, List.getElem?_cons_succ, List.getElem?_cons_zero] <;> rfl) (by kernel_rfl) (by kernel_rfl) (by kernel_rfl) (by exact fun _ _ _ h => h) (Or.inl ⟨by rfl, ?d12y⟩) hHeld ?d12r
                      case d12y => intro w hSw; (try dsimp only at hSw); go_simp <;> rfl
                      simp only [Act.put, List.setIfInBounds_toArray, List.set_cons_zero, List.set_cons_succ]
                      refine wpAnyH_take (i := 14) (v := ?d13v) (by simp only [List.getElem?_toArray, List.getElem?_cons_succ, List.getElem?_cons_zero] <;> rfl) (by kernel_rfl) (by kernel_rfl) (by kernel_rfl) (by exact fun _ _ _ h => h) (Or.inl ⟨by rfl, ?d13y⟩) hHeld ?d13r
                      case d13y => intro w hSw; (try dsimp only at hSw); go_simp <;> rfl
                      simp only [Act.put, List.setIfInBounds_toArray, List.set_cons_zero, List.set_cons_succ]
                      refine wpAnyH_done (by kernel_rfl) ?_ _
                      have K3 := hK.trans kw3
                      have y2 := fun W (K : Keep0 w3 W) => y2 W (kw3.trans K)
                      have xj0 := kw3.cell xj0 (fun f => f)
                      have xj1 := kw3.cell xj1 (fun f => f)
                      have xj2 := kw3.cell xj2 (fun f => f)
                      have xj3 := kw3.cell xj3 (fun f => f)
                      have xk0 := kw3.cell xk0 (fun f => f)
                      have xk1 := kw3.cell xk1 (fun f => f)
                      have xk2 := kw3.cell xk2 (fun f => f)
                      have xk3 := kw3.cell xk3 (fun f => f)
                      have HOk2 : Hid (∀ W, Keep0 w3 W → W.ownsRow w.heap.size 3 1 (.slice vo0 vn0 vc0) O.length (numCells O)) := fun W K => HOk2.out W (kw3.trans K)
                      clear y1 kw3 hK hHeld
                      go_wp2_with fail
                      refine wp_region_held_drew (S := (fun W => W.cell? ⟨b, off + j * 4, none⟩ = some (.slice jo Y.c.length jc) ∧ W.cell? ⟨b, off + j * 4 + 1, none⟩ = some (.bool Y.d) ∧ W.cell? ⟨b, off + j * 4 + 2, none⟩ = some (.string Y.x.a) ∧ W.cell? ⟨b, off + j * 4 + 3, none⟩ = some (.int .u64 (Y.x.n : Int)) ∧ W.cell? ⟨b, off + k * 4, none⟩ = some (.slice ko Z.c.length kc) ∧ W.cell? ⟨b, off + k * 4 + 1, none⟩ = some (.bool Z.d) ∧ W.cell? ⟨b, off + k * 4 + 2, none⟩ = some (.string Z.x.a) ∧ W.cell? ⟨b, off + k * 4 + 3, none⟩ = some (.int .u64 (Z.x.n : Int)))) (by kernel_rfl) ⟨xj0, xj1, xj2, xj3, xk0, xk1, xk2, xk3⟩ (fun hHeld => ?_)
                      refine wpAnyH_take (i := 0) (v := ?dz0v) (by simp only [List.getElem?_toArray, List.getElem?_cons_zero] <;> rfl) (by kernel_rfl) (by kernel_rfl) (by kernel_rfl) (by exact fun _ _ _ h => h) (Or.inl ⟨by rfl, ?dz0y⟩) hHeld ?dz0r
                      case dz0y => intro w hSw; (try dsimp only at hSw); go_simp <;> rfl
                      simp only [Act.put, List.setIfInBounds_toArray, List.set_cons_zero, List.set_cons_succ]
                      refine wpAnyH_take (i := 1) (v := ?dz1v) (by simp only [List.getElem?_toArray, List.getElem?_cons_succ, List.getElem?_cons_zero] <;> rfl) (by kernel_rfl) (by kernel_rfl) (by kernel_rfl) (by exact fun _ _ _ h => h) (Or.inl ⟨by rfl, ?dz1y⟩) hHeld ?dz1r
                      case dz1y => intro w hSw; (try dsimp only at hSw); go_simp <;> rfl
                      simp only [Act.put, List.setIfInBounds_toArray, List.set_cons_zero, List.set_cons_succ]
                      refine wpAnyH_take (i := 2) (v := ?dz2v) (by simp only [List.getElem?_toArray, List.getElem?_cons_succ, List.getElem?_cons_zero] <;> rfl) (by kernel_rfl) (by kernel_rfl) (by kernel_rfl) (by exact fun _ _ _ h => h) (Or.inl ⟨by rfl, ?dz2y⟩) hHeld ?dz2r
                      case dz2y => intro w hSw; (try dsimp only at hSw); go_simp <;> rfl
                      simp only [Act.put, List.setIfInBounds_toArray, List.set_cons_zero, List.set_cons_succ]
                      refine wpAnyH_take (i := 3) (v := ?dz3v) (by simp only [List.getElem?_toArray, List.getElem?_cons_succ, List.getElem?_cons_zero] <;> rfl) (by kernel_rfl) (by kernel_rfl) (by kernel_rfl) (by exact fun _ _ _ h => h) (Or.inl ⟨by rfl, ?dz3y⟩) hHeld ?dz3r
                      case dz3y => intro w hSw; (try dsimp only at hSw); go_simp <;> rfl
                      simp only [Act.put, List.setIfInBounds_toArray, List.set_cons_zero, List.set_cons_succ]
                      refine wpAnyH_take (i := 4) (v := ?dz4v) (by simp only [List.getElem?_toArray, List.getElem?_cons_succ, List.getElem?_cons_zero] <;> rfl) (by kernel_rfl) (by kernel_rfl) (by kernel_rfl) (by exact fun _ _ _ h => h) (Or.inl ⟨by rfl, ?dz4y⟩) hHeld ?dz4r
                      case dz4y => intro w hSw; (try dsimp only at hSw); go_simp <;> rfl
                      simp only [Act.put, List.setIfInBounds_toArray, List.set_cons_zero, List.set_cons_succ]
                      refine wpAnyH_take (i := 5) (v := ?dz5v) (by simp only [List.getElem?_toArray, List.getElem?_cons_succ, List.getElem?_cons_zero] <;> rfl) (by kernel_rfl) (by kernel_rfl) (by kernel_rfl) (by exact fun _ _ _ h => h) (Or.inl ⟨by rfl, ?dz5y⟩) hHeld ?dz5r
                      case dz5y => intro w hSw; (try dsimp only at hSw); go_simp <;> rfl
                      simp only [Act.put, List.setIfInBounds_toArray, List.set_cons_zero, List.set_cons_succ]
                      refine wpAnyH_take (i := 6) (v := ?dz6v) (by simp only [List.getElem?_toArray, List.getElem?_cons_succ, List.getElem?_cons_zero] <;> rfl) (by kernel_rfl) (by kernel_rfl) (by kernel_rfl) (by exact fun _ _ _ h => h) (Or.inl ⟨by rfl, ?dz6y⟩) hHeld ?dz6r
                      case dz6y => intro w hSw; (try dsimp only at hSw); go_simp <;> rfl
                      simp only [Act.put, List.setIfInBounds_toArray, List.set_cons_zero, List.set_cons_succ]
                      refine wpAnyH_take (i := 7) (v := ?dz7v) (by simp only [List.getElem?_toArray, List.getElem?_cons_succ, List.getElem?_cons_zero] <;> rfl) (by kernel_rfl) (by kernel_rfl) (by kernel_rfl) (by exact fun _ _ _ h => h) (Or.inl ⟨by rfl, ?dz7y⟩) hHeld ?dz7r
                      case dz7y => intro w hSw; (try dsimp only at hSw); go_simp <;> rfl
                      simp only [Act.put, List.setIfInBounds_toArray, List.set_cons_zero, List.set_cons_succ]
                      refine wpAnyH_ready (rs := [8]) (by kernel_rfl) (by simp) ?_
                      refine AllReadyH.cons (by simp only [List.getElem?_toArray, List.getElem?_cons_succ, List.getElem?_cons_zero] <;> rfl) (fun K hK => ?_) AllReadyH.nil
                      go_simp
                      refine (y2 _ (Keep.refl _ _).drew).mono ?_
                      rintro e w5 ⟨rfl, kx⟩
                      have kw5 : Keep0 w3 w5 := ((Keep.refl _ w3).drew).trans kx
                      clear kx
                      go_wp2_with fail
                      refine hK.out _ _ ⟨kw5.cell xj0 (fun f => f), kw5.cell xj1 (fun f => f), kw5.cell xj2 (fun f => f), kw5.cell xj3 (fun f => f), kw5.cell xk0 (fun f => f), kw5.cell xk1 (fun f => f), kw5.cell xk2 (fun f => f), kw5.cell xk3 (fun f => f)⟩ (fun hHeld => ?_)
                      clear hK K
                      refine wpAnyH_take (i := 9) (v := ?dz8v) (by simp only [List.getElem?_toArray, List.getElem?_cons_succ, List.getElem?_cons_zero] <;> rfl) (by kernel_rfl) (by kernel_rfl) (by kernel_rfl) (by exact fun _ _ _ h => h) (Or.inl ⟨by rfl, ?dz8y⟩) hHeld ?dz8r
                      case dz8y => intro w hSw; (try dsimp only at hSw); go_simp <;> rfl
                      simp only [Act.put, List.setIfInBounds_toArray, List.set_cons_zero, List.set_cons_succ]
                      refine wpAnyH_take (i := 10) (v := ?dz9v) (by simp only [List.getElem?_toArray, List.getElem?_cons_succ, List.getElem?_cons_zero] <;> rfl) (by kernel_rfl) (by kernel_rfl) (by kernel_rfl) (by exact fun _ _ _ h => h) (Or.inl ⟨by rfl, ?dz9y⟩) hHeld ?dz9r
                      case dz9y => intro w hSw; (try dsimp only at hSw); go_simp <;> rfl
                      simp only [Act.put, List.setIfInBounds_toArray, List.set_cons_zero, List.set_cons_succ]
                      refine wpAnyH_take (i := 11) (v := ?dz10v) (by simp only [List.getElem?_toArray, List.getElem?_cons_succ, List.getElem?_cons_zero] <;> rfl) (by kernel_rfl) (by kernel_rfl) (by kernel_rfl) (by exact fun _ _ _ h => h) (Or.inl ⟨by rfl, ?dz10y⟩) hHeld ?dz10r
                      case dz10y => intro w hSw; (try dsimp only at hSw); go_simp <;> rfl
                      simp only [Act.put, List.setIfInBounds_toArray, List.set_cons_zero, List.set_cons_succ]
                      refine wpAnyH_take (i := 12) (v := ?dz11v) (by simp only [List.getElem?_toArray, List.getElem?_cons_succ, List.getElem?_cons_zero] <;> rfl) (by kernel_rfl) (by kernel_rfl) (by kernel_rfl) (by exact fun _ _ _ h => h) (Or.inl ⟨by rfl, ?dz11y⟩) hHeld ?dz11r
                      case dz11y => intro w hSw; (try dsimp only at hSw); go_simp <;> rfl
                      simp only [Act.put, List.setIfInBounds_toArray, List.set_cons_zero, List.set_cons_succ]
                      refine wpAnyH_take (i := 13) (v := ?dz12v) (by simp only [List.getElem?_toArray, List.getElem?_cons_succ, List.getElem?_cons_zero] <;> rfl) (by kernel_rfl) (by kernel_rfl) (by kernel_rfl) (by exact fun _ _ _ h => h) (Or.inl ⟨by rfl, ?dz12y⟩) hHeld ?dz12r
                      case dz12y => intro w hSw; (try dsimp only at hSw); go_simp <;> rfl
                      simp only [Act.put, List.setIfInBounds_toArray, List.set_cons_zero, List.set_cons_succ]
                      refine wpAnyH_done (by kernel_rfl) ?_ _
                      have K5 := K3.trans kw5
                      have HOd : Hid (w5.ownsRow w.heap.size 3 1 (.slice vo0 vn0 vc0) O.length (numCells O)) := HOk2.out _ kw5
                      clear y2 kw5 K3 HOk2 hHeld
                      go_wp2
                      go_roundw
                      case rel => exact ⟨j + 1, false, by go_num, rfl, by omega, HP2, HOd, K5⟩
                      case measure => simp [intOf]; omega
            · have i2 : ¬ (j : Int) < l.length := by omega
              have hp := HP.out
              have ej : j = l.length := by omega
              rw [ej] at hp
              have hp : keepAt l k = p := hp
              have hown := HOw.out
              cases p with
              | false =>
                have HO2 : Hid (O = keptTo l (k + 1)) := by
                  show O = _
                  rw [keptTo_succ, hp, HOk.out]
                  simp
                clear HP HOw HOk hp ej
                go_wp2
                go_roundw
                case rel => exact ⟨k + 1, O, by go_num, by omega, HO2, by omega, hown, hK⟩
                case measure => simp [intOf]; omega
              | true =>
                have HO2 : Hid (O ++ [k] = keptTo l (k + 1)) := by
                  show O ++ [k] = _
                  rw [keptTo_succ, hp, if_pos rfl, HOk.out]
                have kW : Keep0 wr (wr.alloc (.cells #[.int .i64 (k : Int)] 3)) := (Keep.refl _ wr).alloc _
                have oW := rowE_keep hown kW (fun _ _ f => f)
                have xW : (wr.alloc (.cells #[.int .i64 (k : Int)] 3)).cell? ⟨wr.heap.size, 0, none⟩ = some (.int .i64 (k : Int)) := cell_alloc wr 3 rfl
                have KW := hK.trans kW
                have zW := KW.size
                have zr := hK.size
                clear HP HOw HOk hp ej kW hown hK
                go_wp2_with (at_builtin; refine wpList_append_num rfl _ _ rfl rfl rfl oW xW ?c1 ?c2 ?_)
                case c1 => first | exact zW | omega
                case c2 => omega
                intro vp wb hxwb hgp
                have howb : wb.ownsRow w.heap.size 3 1 vp (O ++ [k]).length (numCells (O ++ [k])) := by simpa using hxwb
                have Kwb : Keep0 w wb := KW.ownGrown hgp (fun g hg => (oW.lt g hg).1)
                clear hxwb oW xW KW zW zr hgp
                obtain ⟨aop, anp, acp, rfl⟩ := sliceE_of_own howb
                go_wp2
                go_roundw
                case rel => exact ⟨k + 1, O ++ [k], by go_num, by omega, HO2, by simp only [List.length_append, List.length_cons, List.length_nil]; omega, howb, Kwb⟩
                case measure => simp [intOf]; omega
        · have i1 : ¬ (k : Int) < l.length := by omega
          have ho := HOk.out
          have ek : k = l.length := by omega
          rw [ek] at ho
          have ho : O = kKept l := ho
          subst ho
          obtain ⟨eo, ec, e2, q1, q2⟩ := nums_of_row12 hown
          cases e2
          clear hown HOk ek q2
          go_wp2
          go_ret2
          exact HM.out _ _ _ _ _ HV.out rfl q1 hK
end Go.Proofs.Ytkbihpdfafapeaa
