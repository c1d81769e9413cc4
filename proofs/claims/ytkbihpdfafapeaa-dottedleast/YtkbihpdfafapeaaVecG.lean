/-
  Contract of package vector's gathering of counts in a map, proved over this seat's translation.
  Conditions: at most 10,000 entries a list, 10,000 lists, 1,000,000 entries in all; each actor takes at most the greatest length that a text may have.
-/
import Derived.Test.YtkbihpdfafapeaaVecC
import Derived.Test.YtkbihpdfafapeaaVecMap
import Derived.Maps.OwnOps
import Derived.Lib.MinMax
namespace Go.Proofs.Ytkbihpdfafapeaa
open Go.RowKit Go.Maps

theorem keyed10 : Keyed Try.prog 9 := string_keyed Try.underlying9
theorem zero10 (w : World) : (zeroValue 23).run Try.prog w = .ok (.int .u64 0) w := by kernel_rfl
/-- A map of counts in memory. -/
def MapAt (w : World) (b n : Nat) (D : DataW Unit) : Prop := w.ownsMap Try.prog 9 (plainElem Try.prog 23) b n D
theorem MapAt.keep {R : Nat → Prop} {w w' : World} {b n : Nat} {D : DataW Unit} (h : MapAt w b n D) (K : Keep R w w') (hn : ¬ R b) : MapAt w' b n D := by
  have hb := World.ownsMap.lt h
  obtain ⟨es, clock, h1, h2, h3, h4⟩ := h
  exact ⟨es, clock, (K.block b hb hn).trans h1, h2, h3, h4⟩
theorem MapAt.keep0 {w w' : World} {b n : Nat} {D : DataW Unit} (h : MapAt w b n D) (K : Keep0 w w') : MapAt w' b n D := h.keep K (fun f => f)
theorem keep_grown {w w' : World} {b : Nat} (h : w.grownBy w' (some b)) : Keep1 b w w' := by
  obtain ⟨h1, h2, h3, h4, h5⟩ := h
  exact ⟨h1, h2, h3, h4, fun k hk hn => h5 k hk (fun e => hn (by cases e; rfl))⟩
theorem gat_num {D : DataW Unit} {P : List En} {A : ByteArray} {c : Int} (h : GAt D P) (hat : D.atKey (.string A.data.toList) (.lit (.int .u64 0)) = .lit (.int .u64 c)) : c = (gMax P A : Int) := by
  have h3 := h.2.2 A
  unfold kOf nOf at h3
  have := hat.symm.trans h3
  simpa using this
theorem flat_take {ls : List (List En)} {k : Nat} (hk : k < ls.length) : (ls.take (k + 1)).flatten = (ls.take k).flatten ++ ls[k] := by
  rw [List.take_succ_eq_append_getElem hk, List.flatten_append]
  simp
theorem take_snoc {l : List En} {j : Nat} (hj : j < l.length) : l.take (j + 1) = l.take j ++ [l[j]] := List.take_succ_eq_append_getElem hj
theorem flat_len : ∀ {ls : List (List En)}, (∀ l ∈ ls, Ok10 l) → ls.flatten.length ≤ 10000 * ls.length
  | [], _ => Nat.le_refl _
  | l :: ls, h => by
    have h1 := (h l List.mem_cons_self).1
    have h2 := flat_len (fun u hu => h u (List.mem_cons_of_mem _ hu))
    rw [List.flatten_cons, List.length_append, List.length_cons]
    omega
theorem flat_take_le (ls : List (List En)) (k : Nat) : (ls.take k).flatten.length ≤ ls.flatten.length := by
  have h : ls.flatten = (ls.take k).flatten ++ (ls.drop k).flatten := by rw [← List.flatten_append, List.take_append_drop]
  rw [h, List.length_append]
  omega
theorem flat_right : ∀ {ls : List (List En)}, (∀ l ∈ ls, vCheck l = 0) → ls.flatten.length ≤ 64 * ls.length
  | [], _ => Nat.le_refl _
  | l :: ls, h => by
    have h1 := ((check_zero l).1 (h l List.mem_cons_self)).1
    have h2 := flat_right (fun u hu => h u (List.mem_cons_of_mem _ hu))
    rw [List.flatten_cons, List.length_append, List.length_cons]
    omega
/-- A map of the greatest counts is answered. -/
def RMap (ls : List (List En)) (w : World) (e : Ending) (w' : World) : Prop := ∃ b n D, e = .returned (.map (some b)) ∧ w.heap.size ≤ b ∧ MapAt w' b n D ∧ n ≤ 1000000 ∧ GAt D ls.flatten ∧ Keep0 w w'
theorem RMap.mk {ls : List (List En)} {w : World} {e : Ending} {w' : World} {b n : Nat} {D : DataW Unit} (h1 : e = .returned (.map (some b))) (h2 : w.heap.size ≤ b) (h3 : MapAt w' b n D) (h4 : n ≤ 1000000) (h5 : GAt D ls.flatten) (h6 : Keep0 w w') : RMap ls w e w' := ⟨b, n, D, h1, h2, h3, h4, h5, h6⟩
set_option maxRecDepth 100000 in
set_option maxHeartbeats 4000000 in
theorem gather10 (w : World) (ao : Option Addr) (cap : Nat) (ls : List (List En)) (hl : ls.length ≤ 10000) (hfl : ls.flatten.length ≤ 1000000) (hf : ∀ l ∈ ls, Ok10 l) (hc : VecsAt w ao ls) :
    Calls Try.prog 44 #[.slice ao ls.length cap] w (RMap ls w) := by
  have HC : Hid (VecsAt w ao ls) := hc
  have HF : Hid (∀ l ∈ ls, Ok10 l) := hf
  have hl' : (ls.length : Int) ≤ 9223372036854775807 := by omega
  have HFL : Hid (ls.flatten.length ≤ 1000000) := hfl
  clear hfl
  have hmm := @run_makeMap Try.prog
  have HB : Hid (MapAt (w.alloc (.map #[] 0)) w.heap.size 0 (.map [])) := World.ownsMap_made _ _ _ _
  have HK0 : Hid (Keep0 w (w.alloc (.map #[] 0))) := (Keep.refl _ w).alloc _
  clear hc hf
  go_enter Try.func44, Try.ntmps44
  go_wp2_with fail
  generalize w.alloc (.map #[] 0) = W0 at *
  obtain ⟨B, hB⟩ : ∃ B, w.heap.size = B := ⟨_, rfl⟩
  rw [hB] at HB
  rw [hB]
  have HBB : Hid (w.heap.size ≤ B) := Nat.le_of_eq hB
  clear hB
  go_loopw [11] (fun i wr => ∃ (k n : Nat) (D : DataW Unit), i = .int .i64 (k : Int) ∧ k ≤ ls.length ∧ n ≤ (ls.take k).flatten.length ∧ Hid (MapAt wr B n D) ∧ Hid (GAt D (ls.take k).flatten) ∧ Keep0 w wr) (fun i _ => ls.length - (intOf i).toNat)
  case atStart => exact ⟨0, 0, _, rfl, by omega, by simp, HB, GAt.new, HK0.out⟩
  case round =>
    obtain ⟨k, n, D, rfl, hk, hn, HD, HG, hK⟩ := hrel
    clear HB HK0 W0 hmm
    by_cases hlt : k < ls.length
    · have i1 : (k : Int) < ls.length := by omega
      obtain ⟨b, off, bo, c, rfl, x0, x1⟩ := HC.out k hlt
      have y0 := hK.cell x0 (fun f => f)
      have okL := HF.out ls[k] (List.getElem_mem hlt)
      have hL := okL.1
      have HX : Hid (EnsAt w bo ls[k]) := x1
      have HFl : Hid ((ls.take (k + 1)).flatten = (ls.take k).flatten ++ ls[k]) := flat_take hlt
      have hpl : (ls.take k).flatten.length ≤ 1000000 := Nat.le_trans (flat_take_le ls k) HFL.out
      have HOk : Hid (Ok10 ls[k]) := okL
      have HPn : Hid (∀ x ∈ (ls.take k).flatten, x.n < 18446744073709551616) := by
        intro x hx
        obtain ⟨u, hu, hxu⟩ := List.mem_flatten.1 hx
        exact ((HF.out u (List.mem_of_mem_take hu)).2 x hxu).2
      have hL' : (ls[k].length : Int) ≤ 9223372036854775807 := by omega
      clear x0 x1 okL
      generalize ls[k] = L at *
      generalize (ls.take k).flatten = P at *
      go_wp2_with fail
      have HK1 : Hid (Keep0 w wr) := hK
      generalize wr = W1 at *
      go_loopw [17] (fun i wr => ∃ (j n : Nat) (D : DataW Unit), i = .int .i64 (j : Int) ∧ j ≤ L.length ∧ n ≤ (P ++ L.take j).length ∧ Hid (MapAt wr B n D) ∧ Hid (GAt D (P ++ L.take j)) ∧ Keep0 w wr) (fun i _ => L.length - (intOf i).toNat)
      case atStart => exact ⟨0, n, D, rfl, by omega, by simpa using hn, HD, by rw [List.take_zero, List.append_nil]; exact HG, HK1.out⟩
      case round =>
        obtain ⟨j, m, E, rfl, hj, hm, HE, HH, hK2⟩ := hrel
        clear HD HG hn HK1 hK y0 W1
        by_cases hjt : j < L.length
        · have i2 : (j : Int) < L.length := by omega
          obtain ⟨b2, o2, rfl, p0, p1⟩ := HX.out j hjt
          have z0 := hK2.cell p0 (fun f => f)
          have z1 := hK2.cell p1 (fun f => f)
          have hA := HOk.out.2 L[j] (List.getElem_mem hjt)
          have hgl : gMax (P ++ L.take j) L[j].a < 18446744073709551616 := gMax_lt (fun x hx => (List.mem_append.1 hx).elim (fun h => HPn.out x h) (fun h => (HOk.out.2 x (List.mem_of_mem_take h)).2)) _
          have HT : Hid (P ++ L.take (j + 1) = (P ++ L.take j) ++ [L[j]]) := by
            show _ = _
            rw [take_snoc hjt, List.append_assoc]
          have hml : m ≤ 1010000 := by
            rw [List.length_append, List.length_take] at hm
            omega
          have kA : ∀ o, Keep0 w (wr.alloc o) := fun o => hK2.alloc o
          have hkey := WideMaps.keyOf_string_mk (P := Try.prog) Try.underlying9 hA.1
          have hP := HH.out.put L[j]
          have HP : Hid (GAt (E.put (kOf L[j].a) (nOf (max (gMax (P ++ L.take j) L[j].a) L[j].n))) (P ++ L.take (j + 1))) := by
            show GAt _ _
            rw [HT.out]
            exact hP
          have hmt : m + 1 ≤ (P ++ L.take (j + 1)).length := by
            rw [HT.out, List.length_append]
            exact Nat.add_le_add_right hm 1
          have HGM : Hid (∀ c : Int, E.atKey (.string L[j].a.data.toList) (.lit (.int .u64 0)) = .lit (.int .u64 c) → c = (gMax (P ++ L.take j) L[j].a : Int)) := fun c h => gat_num HH.out h
          generalize gMax (P ++ L.take j) L[j].a = G at *
          have hN := hA.2
          generalize L[j].n = N at *
          generalize L[j].a = A at *
          have hmax : max (G : Int) (N : Int) = ((max G N : Nat) : Int) := by omega
          have wfm : (Lit.int .u64 ((max G N : Nat) : Int)).wf = true := WalkArith.wf_u64 (by omega)
          clear hA hP p0 p1 HH HT
          generalize max G N = MX at *
          have hown : ∀ o, MapAt (wr.alloc o) B m E := fun o => HE.out.keep0 ((Keep.refl _ wr).alloc o)
          go_wp2_with (first
            | (at_lookup; refine wpList_lookup_own_int _ rfl _ _ 66 rfl 9 23 .u64 keyed10 Try.underlying66 Try.underlying23 (zero10 _) B m E rfl (hown _) _ _ rfl hkey ?_; intro c hat hwc; obtain rfl := HGM.out c hat; clear hat hwc)
            | (at_mapUpdate; refine wpList_mapUpdate_own _ rfl _ _ _ 66 rfl 9 23 keyed10 Try.underlying66 _ B m E rfl (hown _) (by unfold maxLen; omega) _ _ _ rfl rfl hkey _ [] (plainElem_int Try.underlying23 wfm) ?_; intro w1 hown1 hgrow1))
          have K1 : Keep0 w w1 := (kA _).step1 (keep_grown hgrow1) HBB.out
          go_roundw
          case rel => exact ⟨j + 1, m + 1, _, by go_num, by omega, hmt, hown1, HP, K1⟩
          case measure => simp [intOf]; omega
        · have i2 : ¬ (j : Int) < L.length := by omega
          rw [List.take_of_length_le (by omega)] at HH hm
          rw [← HFl.out] at HH hm
          go_wp2
          go_roundw
          case rel => exact ⟨k + 1, m, E, by go_num, by omega, hm, HE, HH, hK2⟩
          case measure => simp [intOf]; omega
    · have i1 : ¬ (k : Int) < ls.length := by omega
      rw [List.take_of_length_le (by omega)] at HG hn
      have hn2 : n ≤ 1000000 := Nat.le_trans hn HFL.out
      go_wp2
      go_ret
      exact RMap.mk rfl HBB.out HD.out hn2 HG.out hK
end Go.Proofs.Ytkbihpdfafapeaa
