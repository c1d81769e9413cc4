/-
  Contracts of package vector's Join and Event, each proved over this seat's translation.
  Conditions: at most 10,000 entries a list, 10,000 lists; each actor takes at most the greatest length that a text may have.
-/
import Derived.Test.YtkbihpdfafapeaaVecD
import Derived.Test.YtkbihpdfafapeaaIter
namespace Go.Proofs.Ytkbihpdfafapeaa
open Go.RowKit Go.Maps

theorem texts_of_row {w : World} {B : Nat} {e : TypeId} {v : Value} {n : Nat} {xs : List (List UInt8)} (h : w.ownsRow B e 1 v n (xs.map encStr)) :
    ∃ ao cap, v = .slice ao xs.length cap ∧ TextsIn w ao (xs.map txt) := by
  have hn : n = xs.length := by have := h.1; rw [List.length_map] at this; omega
  subst hn
  rcases h.2 with ⟨rfl, h0⟩ | ⟨g, cap, cur, rfl, hb, hg, hcap, hrest⟩
  · exact ⟨none, 0, by rw [h0], fun i hi => by rw [List.length_map] at hi; omega⟩
  · refine ⟨some ⟨g, 0, none⟩, cap, rfl, fun i hi => ⟨g, 0, rfl, ?_⟩⟩
    have hi' : i < xs.length := by rw [List.length_map] at hi; exact hi
    have hc := h.cells (g := g) rfl
    have := hc i (encStr xs[i]) (by rw [List.getElem?_map, List.getElem?_eq_getElem hi']; rfl)
    rw [add_plain] at this
    rw [this]
    show some (Value.string (txt xs[i])) = some (Value.string (xs.map txt)[i])
    rw [List.getElem_map]
/-- The map's keys: none twice, and just those that it has. -/
theorem keys10 {W : World} {b n : Nat} {D : DataW Unit} (hM : MapAt W b n D) : (strKeys D).Nodup ∧ ∀ x, x ∈ strKeys D ↔ has D (.string x) = true := by
  obtain ⟨es, hD1, hpw, _⟩ := World.ownsMap.entries hM keyed10
  obtain ⟨es', hD2, hko⟩ := World.ownsMap.keysOf hM
  obtain rfl : es = es' := by rw [hD1] at hD2; simpa using hD2
  have hstr : ∀ p ∈ es, ∃ x, p.1 = Lit.string x := fun p hp => by obtain ⟨v, hv⟩ := hko p hp; obtain ⟨x, _, hx, _⟩ := Maps.keyOf_str Try.underlying9 hv; exact ⟨x, hx⟩
  have hnd : (strKeys D).Nodup := by
    rw [hD1]
    show (es.map fun p => strOf p.1).Nodup
    refine List.pairwise_map.2 (hpw.imp_of_mem fun {p q} hp' hq' hne e => hne ?_)
    obtain ⟨a, ha⟩ := hstr p hp'
    obtain ⟨b, hb⟩ := hstr q hq'
    rw [ha, hb] at e ⊢
    exact congrArg _ e
  have hmem : ∀ x, x ∈ strKeys D ↔ has D (.string x) = true := by
    intro x
    rw [hD1, has_eq, List.any_eq_true]
    show x ∈ es.map (fun p => strOf p.1) ↔ _
    rw [List.mem_map]
    constructor
    · rintro ⟨p, hp', rfl⟩
      obtain ⟨a, ha⟩ := hstr p hp'
      exact ⟨p, hp', by rw [ha]; simp [Lit.sameKey, strOf]⟩
    · rintro ⟨p, hp', hs⟩
      obtain ⟨a, ha⟩ := hstr p hp'
      rw [ha] at hs
      exact ⟨p, hp', by rw [ha]; simpa [Lit.sameKey, strOf] using hs⟩
  exact ⟨hnd, hmem⟩
/-- What the sorted keys come to: the vectors joined, their actors in memory. -/
theorem sorted10 (W : World) (b n : Nat) (D : DataW Unit) (ls : List (List En)) (hM : MapAt W b n D) (hn : n ≤ 1000000) (hD : GAt D ls.flatten) (hr : rights ls = true) :
    Calls Try.prog 45 #[.func (.func 50) #[] #[.pointer (some ⟨W.heap.size, 0, none⟩)]] (W.alloc (.cells #[.map (some b)] 66)) fun e w' =>
      ∃ ao cap, e = .returned (.slice ao (vAll [] ls).length cap) ∧ TextsIn w' ao ((vAll [] ls).map (·.a)) ∧ Keep0 (W.alloc (.cells #[.map (some b)] 66)) w' := by
  have hs := World.ownsMap.size_le hM
  refine (sorted_keys_any b n D _ W hM (by unfold maxLen; omega) (by omega)).mono ?_
  rintro e w' ⟨v, ss, rfl, hp, hrow, _, hb⟩
  obtain ⟨hnd, hmem⟩ := keys10 hM
  have hv := keys_vec hr hD ((hp.nodup_iff).2 hnd) (fun x => (hp.mem_iff).trans (hmem x))
  obtain ⟨ao, cap, rfl, ht⟩ := texts_of_row hrow
  have el : (ss.mergeSort leB).length = (vAll [] ls).length := by rw [← hv, vecOf_len]
  have ea : (ss.mergeSort leB).map txt = (vAll [] ls).map (·.a) := by
    rw [← hv]
    unfold vecOf
    rw [List.map_map]
    rfl
  refine ⟨ao, cap, by rw [← el], by rw [← ea]; exact ht, ?_⟩
  exact (Keep.ofBelow hb).mono (fun k hk h => absurd h (by show ¬ _ ≤ k; omega))
/-- How many actors the map has. -/
theorem size10 {W : World} {b n : Nat} {D : DataW Unit} {ls : List (List En)} (hM : MapAt W b n D) (hD : GAt D ls.flatten) (hr : rights ls = true) : Maps.size D = (vAll [] ls).length := by
  obtain ⟨hnd, hmem⟩ := keys10 hM
  have hv := keys_vec hr hD hnd hmem
  rw [← strKeys_len hD.1, ← hv, vecOf_len, List.length_mergeSort]

set_option maxRecDepth 100000 in
set_option maxHeartbeats 8000000 in
theorem join10 (w : World) (ao : Option Addr) (cap : Nat) (ls : List (List En)) (hl : ls.length ≤ 10000) (hf : ∀ l ∈ ls, Ok10 l) (hc : VecsAt w ao ls) :
    Calls Try.prog 34 #[.slice ao ls.length cap] w (REnsE (vJoin ls) w) := by
  have yr := right10 w ao cap ls hl hf hc
  have HE : Hid (∀ (W : World) (e : Ending) (E : Int), vJoin ls = ([], E) → e = .returned (.tuple #[.slice none 0 0, .int .i64 E]) → Keep0 w W → REnsE (vJoin ls) w e W) := fun _ _ _ h1 h2 h3 => REnsE.bare h1 h2 h3
  have HM : Hid (∀ (W : World) (e : Ending) (bo : Option Addr) (c : Nat) (R : List En), vJoin ls = (R, 0) → e = .returned (.tuple #[.slice bo R.length c, .int .i64 0]) → EnsAt W bo R → (∀ g off m, bo = some ⟨g, off, m⟩ → w.heap.size ≤ g) → Keep0 w W → REnsE (vJoin ls) w e W) := by
    intro W e bo c R h1 h2 h3 h4 h5
    rw [h1]
    exact REnsE.mk h2 h3 h4 h5
  cases hR : rights ls with
  | false =>
    rw [hR] at yr
    have HV : Hid (vJoin ls = ([], 1)) := by
      show vJoin ls = _
      unfold vJoin
      rw [hR, if_neg (by decide)]
    clear hR HM hc
    go_enter Try.func34, Try.ntmps34
    go_wp2_with fail
    refine yr.mono ?_
    rintro e w1 ⟨rfl, k1⟩
    clear yr
    go_wp2
    go_ret2
    exact HE.out _ _ _ HV.out rfl k1
  | true =>
    rw [hR] at yr
    have yg := fun W (K : Keep0 w W) => gather10 W ao cap ls hl (by have := flat_right (rights_iff.1 hR); omega) hf (hc.keep0 K)
    have HR : Hid (rights ls = true) := hR
    have HVm : Hid (64 < (vAll [] ls).length → vJoin ls = ([], 3)) := fun h => join_many hR h
    have HVy : Hid (¬ 64 < (vAll [] ls).length → vJoin ls = (vAll [] ls, 0)) := fun h => join_yes hR h
    clear hR hc
    go_enter Try.func34, Try.ntmps34
    go_wp2_with fail
    refine yr.mono ?_
    rintro e w1 ⟨rfl, k1⟩
    have yg := yg w1 k1
    clear yr
    go_wp2_with fail
    refine yg.mono ?_
    rintro e w2 ⟨b, n, D, rfl, hb, hM, hn, hD, k2⟩
    have K2 := k1.trans k2
    have hsz := size10 hM hD HR.out
    have y4 := sorted10 w2 b n D ls hM hn hD HR.out
    have y3 := maps_keys (some b) w2
    have HA : Hid (∀ (A : ByteArray) (c : Int), D.atKey (.string A.data.toList) (.lit (.int .u64 0)) = .lit (.int .u64 c) → c = (gMax ls.flatten A : Int)) := fun A c h => gat_num hD h
    have hgood : Good (vAll [] ls) := all_good Good.nil (rights_good HR.out)
    have HN : Hid (∀ x ∈ vAll [] ls, x.a.size ≤ maxLen ∧ gMax ls.flatten x.a = x.n) := by
      intro x hx
      refine ⟨by have := (hgood.1 x hx).2.1; unfold maxLen; omega, ?_⟩
      rw [gMax_all (rights_good HR.out), ← count_mem hgood x hx, all_count Good.nil (rights_good HR.out)]
      show _ = max 0 _
      omega
    clear yg k1 k2 hgood hD
    obtain ⟨R, hRl⟩ : ∃ R, vAll [] ls = R := ⟨_, rfl⟩
    rw [hRl] at HVm HVy hsz y4 HN
    clear hRl HR
    by_cases h64 : 64 < R.length
    · have HV : Hid (vJoin ls = ([], 3)) := HVm.out h64
      have j1 : (64 : Int) < (Maps.size D : Int) := by rw [hsz]; omega
      have j1' : 64 < Maps.size D := by rw [hsz]; omega
      clear HVm HVy HM y3 y4 HN hsz h64
      go_wp2_with (at_len; refine wpList_len_own _ rfl _ 66 rfl 9 23 Try.underlying66 _ b n D rfl hM ?_)
      go_ret2
      exact HE.out _ _ _ HV.out rfl K2
    · have HV : Hid (vJoin ls = (R, 0)) := HVy.out h64
      have j1 : ¬ (64 : Int) < (Maps.size D : Int) := by rw [hsz]; omega
      have j1' : ¬ 64 < Maps.size D := by rw [hsz]; omega
      have hRl : R.length ≤ 64 := by omega
      have hR' : (R.length : Int) ≤ 9223372036854775807 := by omega
      clear HVm HVy HE h64 hsz
      have hM2 : MapAt w2 b n D := hM
      go_wp2_with (at_len; refine wpList_len_own _ rfl _ 66 rfl 9 23 Try.underlying66 _ b n D rfl hM2 ?_)
      refine y3.mono ?_
      rintro e w3 ⟨rfl, rfl⟩
      have kA : Keep0 w2 (w2.alloc (.cells #[.map (some b)] 66)) := (Keep.refl _ w2).alloc _
      clear y3
      go_wp2_with fail
      generalize (w2.alloc (.cells #[.map (some b)] 66)) = W3 at *
      refine y4.mono ?_
      rintro e w5 ⟨so, sc, rfl, hT, k5⟩
      have HT : Hid (TextsIn w5 so (R.map (·.a))) := hT
      have k35 := kA.trans k5
      have HMw : Hid (MapAt w5 b n D) := hM.keep0 k35
      have HK5 : Hid (Keep0 w w5) := K2.trans k35
      have HB : Hid (w.heap.size ≤ w5.heap.size) := (K2.trans k35).size
      clear y4 hT k5 kA k35 hM hM2 K2 W3 hb
      have HO : Hid (w5.ownsRow w5.heap.size 25 2 (.slice none 0 0) 0 (enCells [])) := ⟨rfl, .inl ⟨rfl, rfl⟩⟩
      go_wp2_with fail
      go_loopw [5, 20] (fun v i wr => ∃ (k : Nat) (O : List En), i = .int .i64 (k : Int) ∧ k ≤ R.length ∧ Hid (O = R.take k) ∧ O.length ≤ 64 ∧ wr.ownsRow w5.heap.size 25 2 v O.length (enCells O) ∧ Keep0 w5 wr) (fun _ i _ => R.length - (intOf i).toNat)
      case atStart => exact ⟨0, [], rfl, by omega, rfl, by simp, HO.out, Keep.refl _ _⟩
      case round =>
        obtain ⟨k, O, rfl, hk, HOk, hOl, hown, hK⟩ := hrel
        clear HO j1 j1' w1 hl hf yg
        by_cases hlt : k < R.length
        · have i1 : (k : Int) < R.length := by omega
          have hkm : k < (R.map (·.a)).length := by rw [List.length_map]; exact hlt
          obtain ⟨tb, toff, rfl, p0⟩ := HT.out k hkm
          rw [List.getElem_map] at p0
          have x0 := hK.cell p0 (fun f => f)
          have hA := HN.out R[k] (List.getElem_mem hlt)
          have hkey := WideMaps.keyOf_string_mk (P := Try.prog) Try.underlying9 hA.1
          have HC : Hid (∀ c : Int, D.atKey (.string R[k].a.data.toList) (.lit (.int .u64 0)) = .lit (.int .u64 c) → c = (R[k].n : Int)) := fun c h => by rw [HA.out _ c h, hA.2]
          have HO2 : Hid (O ++ [R[k]] = R.take (k + 1)) := by
            show O ++ [R[k]] = _
            rw [take_snoc hlt, HOk.out]
          have hOk : O.length + 1 ≤ 64 := by rw [HOk.out, List.length_take]; omega
          have hM := HMw.out.keep0 hK
          generalize R[k] = X at *
          have kW : Keep0 wr (wr.alloc (.cells #[.string X.a, .int .u64 (X.n : Int)] 25)) := (Keep.refl _ wr).alloc _
          have oW := rowE_keep hown kW (fun _ _ f => f)
          have xW := en_new wr 25 X
          have KW := hK.trans kW
          have zW := KW.size
          clear p0 hA HOk hown kW HMw
          obtain ⟨vo, vn, vc, rfl⟩ := sliceE_of_own oW
          go_wp2_with (first
            | (at_lookup; refine wpList_lookup_own_int _ rfl _ _ 66 rfl 9 23 .u64 keyed10 Try.underlying66 Try.underlying23 (zero10 _) b n D rfl hM _ _ rfl hkey ?_; intro c hat hwc; obtain rfl := HC.out c hat; clear hat hwc)
            | (at_builtin; refine wpList_append_ens rfl _ _ rfl rfl rfl oW xW ?c1 ?c2 ?_))
          case c1 => first | exact zW | omega
          case c2 => first | omega | (show O.length + 1 ≤ 1000000; omega)
          intro vp wb hxwb hgp
          have howb : wb.ownsRow w5.heap.size 25 2 vp (O ++ [X]).length (enCells (O ++ [X])) := by simpa using hxwb
          have Kwb : Keep0 w5 wb := KW.ownGrown hgp (fun k hk => (oW.lt k hk).1)
          clear hxwb oW xW KW zW hgp hM hK x0
          obtain ⟨aop, anp, acp, rfl⟩ := sliceE_of_own howb
          go_wp2
          go_roundw
          case rel => exact ⟨k + 1, O ++ [X], by go_num, by omega, HO2, by simp only [List.length_append, List.length_cons, List.length_nil]; omega, howb, Kwb⟩
          case measure => simp [intOf]; omega
        · have i1 : ¬ (k : Int) < R.length := by omega
          have ho := HOk.out
          rw [List.take_of_length_le (by omega)] at ho
          subst ho
          obtain ⟨eo, ec, rfl, q1, q2, _⟩ := ens_of_row hown
          have hsz := HB.out
          have q2' : ∀ g off m, eo = some ⟨g, off, m⟩ → w.heap.size ≤ g := fun g off m e => by have := q2 g off m e; omega
          have K := HK5.out.trans hK
          clear HK5 q2 hsz
          go_wp2
          go_ret2
          exact HM.out _ _ _ _ _ HV.out rfl q1 q2' K
end Go.Proofs.Ytkbihpdfafapeaa
