/-
  append of frames onto a slice that the call owns, whatever the other slice is; the contract of package framer's Run, proved over this seat's translation.
  Conditions: all texts together take at most 1,000,000 bytes.
-/
import Derived.Test.YtmgfalkelembkaaFramerFns
import Derived.Test.YtmgfalkelembkaaL8
import Derived.Test.YtmgfalkelembkaaL5
import Derived.Deep.Upon
namespace Go.Proofs.Ytmgfalkelembkaa
open Go.RowKit

theorem frames_cells {w : World} {ao : Option Addr} {l : List Fr} (h : FramesAt w ao l) (hne : 0 < l.length) : ∃ b off, ao = some ⟨b, off, none⟩ ∧ ∀ j u, (frCells l)[j]? = some u → w.cell? ((⟨b, off, none⟩ : Addr).add j) = some u := by
  obtain ⟨b, off, rfl, _⟩ := h 0 hne
  refine ⟨b, off, rfl, fun j u hu => ?_⟩
  have hj : j < (frCells l).length := (List.getElem?_eq_some_iff.1 hu).1
  rw [frCells_len] at hj
  have hi : j / 3 < l.length := by omega
  have hr : j % 3 < 3 := Nat.mod_lt _ (by decide)
  have ej : j / 3 * 3 + j % 3 = j := by omega
  obtain ⟨b', off', e, h0, h1, h2⟩ := h (j / 3) hi
  cases e
  have hu' := frCells_get l (j / 3) hi (j % 3) hr
  rw [ej, hu] at hu'
  rw [add_plain]
  have hc : j % 3 = 0 ∨ j % 3 = 1 ∨ j % 3 = 2 := by omega
  rcases hc with hc | hc | hc
  · rw [hc] at hu'
    have : u = .int .u8 (l[j / 3].v.toNat : Int) := by simpa [Fr.cells] using hu'
    rw [this, ← h0]
    congr 2
    omega
  · rw [hc] at hu'
    have : u = .int .u8 (l[j / 3].k.toNat : Int) := by simpa [Fr.cells] using hu'
    rw [this, ← h1]
    congr 2
    omega
  · rw [hc] at hu'
    have : u = .string l[j / 3].p := by simpa [Fr.cells] using hu'
    rw [this, ← h2]
    congr 2
    omega
theorem frCells_one (l : List Fr) : ∀ u ∈ frCells l, u.oneCell' = true := by
  intro u hu
  unfold frCells at hu
  obtain ⟨f, _, hf⟩ := List.mem_flatMap.1 hu
  simp only [Fr.cells, List.mem_cons, List.mem_nil_iff, or_false] at hf
  rcases hf with rfl | rfl | rfl <;> rfl
theorem run_append_frames {w : World} {B : Nat} {v : Value} {l m : List Fr} {ao : Option Addr} {c : Nat} (ty : TypeId) (ho : w.ownsRow B 46 3 v l.length (frCells l)) (hs : FramesAt w ao m) (hB : B ≤ w.heap.size) (hlen : l.length + m.length ≤ 1000000) :
    ∃ v' w', (Builtin.append_ #[26, 26] ty #[v, .slice ao m.length c]).run Try.prog w = .ok v' w' ∧ w'.ownsRow B 46 3 v' (l ++ m).length (frCells (l ++ m)) ∧ w.grownBy w' v.ownBlock := by
  obtain ⟨i0, hi, z0, z1, z2⟩ := info_parts frame_info
  have big : ∀ a, (∀ j u, (frCells m)[j]? = some u → w.cell? (Addr.add a j) = some u) → ∃ v' w', (Builtin.append_ #[26, 26] ty #[v, .slice (some a) m.length c]).run Try.prog w = .ok v' w' ∧ w'.ownsRow B 46 3 v' (l ++ m).length (frCells (l ++ m)) ∧ w.grownBy w' v.ownBlock := by
    intro a ha
    obtain ⟨v', w', h1, h2, h3, _⟩ := run_append_own_wide (P := Try.prog) w B 26 ty 46 i0 _ 3 24 Try.underlying26 hi z0 z1 z2 rfl (by decide) v l.length (frCells l) ho a m.length c (frCells m) (frCells_len m) ha (frCells_one m) (by unfold maxLen; omega) (by omega) hB
    exact ⟨v', w', h1, by rw [frCells_app, List.length_append]; exact h2, h3⟩
  by_cases hm : 0 < m.length
  · obtain ⟨b, off, rfl, hc⟩ := frames_cells hs hm
    exact big _ hc
  · have hm' : m = [] := List.eq_nil_of_length_eq_zero (by omega)
    subst hm'
    cases ao with
    | some a => exact big a (fun j u hu => by cases hu)
    | none =>
      have hsrc : Src Try.prog i0.size 26 (.slice none 0 c) 0 [] w := Src.ofNil w Try.underlying26 c
      have hv : ∃ base n cap, v = .slice base n cap ∧ n ≤ cap := by
        rcases ho.2 with ⟨e, _⟩ | ⟨g, cp, cur, e, _, _, hc, _⟩
        · exact ⟨_, _, _, e, Nat.le_refl _⟩
        · exact ⟨_, _, _, e, hc⟩
      obtain ⟨base, n, cap, rfl, hle⟩ := hv
      refine ⟨_, w, run_append_nothing w 26 26 ty 46 i0 Try.underlying26 hi base n cap hle _ hsrc, ?_, ⟨rfl, rfl, rfl, Nat.le_refl _, fun _ _ _ => rfl⟩⟩
      rw [List.append_nil]
      exact ho
theorem wpList_append_frames {w : World} {ops : Array Oper} {rest : List Oper} {o : Oper} {a : Act} {Q : Exit → Act → World → Prop} (hgd : o.guard = none) (s x : Operand)
    (ho : o.op = .call { callee := .builtin .append, args := #[s, x], argTypes := #[26, 26] }) {B : Nat} {v : Value} {l m : List Fr} {ao : Option Addr} {c : Nat}
    (hs : a.eval s = v) (hx : a.eval x = .slice ao m.length c) (hown : w.ownsRow B 46 3 v l.length (frCells l)) (hsrc : FramesAt w ao m) (hB : B ≤ w.heap.size) (hlen : l.length + m.length ≤ 1000000)
    (h : ∀ v' w', w'.ownsRow B 46 3 v' (l ++ m).length (frCells (l ++ m)) → w.grownBy w' v.ownBlock → wpList Try.prog ops Q rest (a.put o.dst v') w') : wpList Try.prog ops Q (o :: rest) a w :=
  wpList_plain hgd fun _ hK => by
    obtain ⟨v', w', hr, h2, h3⟩ := run_append_frames (c := c) o.type hown hsrc hB hlen
    unfold Oper.wp execOp
    simp only [ho, resolve, invoke, builtin, Sem.run_bind, Sem.run_pure, Result.andThen_ok, List.map_toArray, List.map_cons, List.map_nil, hs, hx, hr]
    exact hK _ _ (h v' w' h2 h3)

/-! ### texts in memory -/
def TxAt (w : World) (ao : Option Addr) (l : List ByteArray) : Prop := ∀ k (_ : k < l.length), ∃ b off, ao = some ⟨b, off, none⟩ ∧ w.cell? ⟨b, off + k, none⟩ = some (.string l[k])
theorem TxAt.keep {R : Nat → Prop} {w w' : World} {ao : Option Addr} {l : List ByteArray} (h : TxAt w ao l) (K : Keep R w w') (hn : Apart R ao) : TxAt w' ao l := by
  intro i hi
  obtain ⟨b, off, e, h1⟩ := h i hi
  exact ⟨b, off, e, K.cell h1 (hn _ _ _ e)⟩
theorem TxAt.keep0 {w w' : World} {ao : Option Addr} {l : List ByteArray} (h : TxAt w ao l) (K : Keep0 w w') : TxAt w' ao l := h.keep K (fun _ _ _ _ f => f)
theorem cat_take_le (l : List ByteArray) (k : Nat) : (cat9 (l.take k)).size ≤ (cat9 l).size := by
  induction l generalizing k with
  | nil => rw [List.take_nil]; exact Nat.le_refl _
  | cons c l ih =>
    cases k with
    | zero => exact Nat.zero_le _
    | succ k =>
      have := ih k
      rw [List.take_succ_cons]
      show (c ++ cat9 (l.take k)).size ≤ (c ++ cat9 l).size
      rw [ByteArray.size_append, ByteArray.size_append]
      omega
theorem push9s_size (l : List ByteArray) (s : ByteArray) : (push9s s l).size ≤ s.size + (cat9 l).size := by
  induction l generalizing s with
  | nil => exact Nat.le_refl _
  | cons c l ih =>
    have h1 := ih (push9 s c)
    have h2 := push_size s c
    show (push9s (push9 s c) l).size ≤ s.size + (c ++ cat9 l).size
    rw [ByteArray.size_append]
    omega
theorem push9s_next (l : List ByteArray) {k : Nat} (hk : k < l.length) : push9s ⟨#[]⟩ (l.take (k + 1)) = push9 (push9s ⟨#[]⟩ (l.take k)) l[k] := by
  rw [List.take_succ_eq_append_getElem hk, push9s_app]
theorem push9s_room (l : List ByteArray) {k : Nat} (hk : k < l.length) : (push9s ⟨#[]⟩ (l.take k)).size + l[k].size ≤ (cat9 l).size := by
  have h1 := push9s_size (l.take k) ⟨#[]⟩
  have h2 := cat_take_le l (k + 1)
  have e : (⟨#[]⟩ : ByteArray).size = 0 := rfl
  rw [List.take_succ_eq_append_getElem hk, cat_app, ByteArray.size_append] at h2
  omega

/-! ### Run -/
/-- What Run answers. -/
def RRun (S : ByteArray) (w : World) (e : Ending) (w' : World) : Prop := ∃ ao cap, e = .returned (.tuple #[.slice ao (fs S).length cap, .int .i64 ((kp S).size : Int), .int .i64 (er S)]) ∧ FramesAt w' ao (fs S) ∧ Keep0 w w'
theorem RRun.mk {S : ByteArray} {w w' : World} {e : Ending} {ao : Option Addr} {cap : Nat} (h : e = .returned (.tuple #[.slice ao (fs S).length cap, .int .i64 ((kp S).size : Int), .int .i64 (er S)])) (h1 : FramesAt w' ao (fs S)) (h2 : Keep0 w w') : RRun S w e w' := ⟨ao, cap, h, h1, h2⟩
set_option maxRecDepth 100000 in
set_option maxHeartbeats 4000000 in
theorem frun_any (w : World) (ao : Option Addr) (cap : Nat) (l : List ByteArray) (hl : l.length ≤ maxLen) (hc : TxAt w ao l) (hs : (cat9 l).size ≤ 1000000) :
    Calls Try.prog 18 #[.slice ao l.length cap] w (RRun (push9s ⟨#[]⟩ l) w) := by
  have HC : Hid (TxAt w ao l) := hc
  have HS : Hid ((cat9 l).size ≤ 1000000) := hs
  have hl' : (l.length : Int) ≤ 9223372036854775807 := by unfold maxLen at hl; omega
  clear hc hs hl
  go_enter Try.func18, Try.ntmps18
  go_wp2_with fail
  refine (fnew_any _).mono ?_
  rintro e w1 ⟨rfl, h1, k1⟩
  generalize hfb : w.heap.size = fb at *
  have z1 : fb < w1.heap.size := h1.lt
  go_wp2_with fail
  go_loopw [6, 12] (fun a i wr => ∃ (k : Nat) (P : ByteArray), i = .int .i64 (k : Int) ∧ k ≤ l.length ∧ P = push9s ⟨#[]⟩ (l.take k) ∧ wr.ownsRow (fb + 1) 46 3 a (fs P).length (frCells (fs P)) ∧ FmAt wr fb P ∧ Keep0 w wr) (fun _ i _ => l.length - (intOf i).toNat)
  case atStart =>
    refine ⟨0, ⟨#[]⟩, rfl, Nat.zero_le _, rfl, ?_, h1, k1⟩
    rw [nil_fs]
    exact World.ownsRow_nil _ _ _ _
  case round =>
    obtain ⟨k, P, rfl, hk, hP, ho, hF, hK⟩ := hrel
    clear h1 k1 z1
    have hz := hF.lt
    by_cases hlt : k < l.length
    · have i1 : (k : Int) < l.length := by omega
      obtain ⟨bb, off, rfl, x0⟩ := HC.out k hlt
      have x0 := hK.cell x0 (fun f => f)
      have hr := push9s_room l hlt
      rw [← hP] at hr
      have hs := HS.out
      have yp := fpush_any hF l[k] (by omega)
      have HP : Hid (push9 P l[k] = push9s ⟨#[]⟩ (l.take (k + 1))) := by
        show push9 P l[k] = _
        rw [push9s_next l hlt, hP]
      have e2 := push_fs P l[k]
      have e3 := fs_len (push9 P l[k])
      have e4 := push_size P l[k]
      rw [e2, List.length_append] at e3
      have HL : Hid ((fs P).length + (told9 P l[k]).length ≤ 1000000) := by show _ ≤ _; omega
      have HE : Hid (fs (push9 P l[k]) = fs P ++ told9 P l[k]) := e2
      generalize push9 P l[k] = P' at *
      generalize told9 P l[k] = TD at *
      generalize l[k] = C at *
      generalize fs P = FP at *
      clear hr hs hP e2 e3 e4
      obtain ⟨ao', an', ca', rfl⟩ := slice_of_own ho
      go_wp2_with fail
      refine yp.mono ?_
      rintro e w2 ⟨bo, cb, rfl, fb2, nb2, hF2, k2⟩
      have ho2 := row_keep ho k2 (fun k hk => by omega)
      have K2 : Keep0 w w2 := hK.step k2 (fun i hi hh => by omega)
      have z2 := hF2.lt
      clear yp ho hF k2 x0 hK nb2
      go_wp2_with (at_builtin; refine wpList_append_frames rfl _ _ rfl rfl rfl ho2 fb2 ?c1 HL.out ?_)
      case c1 => omega
      intro v' w3 ho3 hg
      have hF3 := hF2.keep (Keep.bGrown (B := fb + 1) hg (fun k hk => (ho2.lt k hk).1)) (by omega)
      have K3 : Keep0 w w3 := K2.grow0 hg (fun k hk => by have := (ho2.lt k hk).1; omega)
      clear ho2 hg fb2 K2 z2 hF2
      obtain ⟨bo', bn', cb', rfl⟩ := slice_of_own ho3
      go_wp2
      go_roundw
      case rel =>
        refine ⟨k + 1, P', by go_num, by omega, HP.out, ?_, hF3, K3⟩
        rw [HE.out, List.length_append]
        exact ho3
      case measure => simp [intOf]; omega
    · have i1 : ¬ (k : Int) < l.length := by omega
      have ek : k = l.length := by omega
      subst ek
      rw [List.take_length] at hP
      have hr := push9s_size l ⟨#[]⟩
      have e : (⟨#[]⟩ : ByteArray).size = 0 := rfl
      rw [← hP] at hr
      have hs := HS.out
      have yk := fkept_any hF (by omega)
      have ye := ferr_any hF
      obtain ⟨ao', ca', rfl, x2, x3⟩ := frames_of_row ho
      have HM : Hid (∀ (W : World) (E : Ending), E = .returned (.tuple #[.slice ao' (fs P).length ca', .int .i64 ((kp P).size : Int), .int .i64 (er P)]) → FramesAt W ao' (fs P) → Keep0 w W → RRun (push9s ⟨#[]⟩ l) w E W) := fun _ _ h1 h2 h3 => by rw [← hP]; exact RRun.mk h1 h2 h3
      generalize fs P = FS at *
      generalize er P = EP at *
      generalize (kp P).size = KN at *
      clear hr hs hP e hF ho x3
      go_wp2_with fail
      refine yk.mono ?_
      rintro e w2 ⟨rfl, rfl⟩
      go_wp2_with fail
      refine ye.mono ?_
      rintro e w2 ⟨rfl, rfl⟩
      go_wp2
      go_ret3
      exact HM.out _ _ rfl x2 hK
end Go.Proofs.Ytmgfalkelembkaa
