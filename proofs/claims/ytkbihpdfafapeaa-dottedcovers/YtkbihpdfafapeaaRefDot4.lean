/-
  Contract of the document's own Ceiling of dotted clocks, proved over this seat's translation.
  Conditions: at most 100 clocks; a vector has at most the greatest length that a slice may have, an actor that of a text.
-/
import Derived.Test.YtkbihpdfafapeaaSingMem
import Derived.Test.YtkbihpdfafapeaaRefDot
namespace Go.Proofs.Ytkbihpdfafapeaa
open Go.RowKit

theorem flatC_take {l : List Ck} {k : Nat} (hk : k < l.length) : (l.take (k + 1)).flatMap ceilV = (l.take k).flatMap ceilV ++ ceilV l[k] := by
  rw [List.take_succ_eq_append_getElem hk, List.flatMap_append]
  simp
theorem flatC_len : ∀ {l : List Ck}, (∀ k ∈ l, Right k) → (l.flatMap ceilV).length ≤ 65 * l.length
  | [], _ => Nat.le_refl _
  | k :: l, h => by
    have h1 := ceilV_len (h k List.mem_cons_self)
    have h2 := flatC_len (fun y hy => h y (List.mem_cons_of_mem _ hy))
    rw [List.flatMap_cons, List.length_append, List.length_cons]
    omega
theorem kRights_no {l : List Ck} {i : Nat} (hi : i < l.length) (h : kCheck l[i] ≠ 0) : kRights l = false := by
  cases hr : kRights l with
  | false => rfl
  | true => exact absurd ((right_iff _).2 (kRights_iff.1 hr _ (List.getElem_mem hi))) h
theorem row_empty (w : World) (e : TypeId) (sz : Nat) : (w.alloc (.cells #[] e)).ownsRow w.heap.size e sz (.slice (some ⟨w.heap.size, 0, none⟩) 0 0) 0 [] :=
  ⟨by simp, .inr ⟨w.heap.size, 0, #[], rfl, Nat.le_refl _, (MapKept.heap_alloc w (.cells #[] e)).1, Nat.le_refl _, Nat.zero_le _, by simp, by simp⟩⟩
theorem singles_len (v : List En) : (singles v).length = v.length := List.length_map ..
theorem singles_fit {v : List En} (h : ∀ x ∈ v, x.a.size ≤ maxLen ∧ x.n < 18446744073709551616) : ∀ l ∈ singles v, Fits l := by
  intro l hl
  obtain ⟨x, hx, rfl⟩ := List.mem_map.1 hl
  refine ⟨by show 1 ≤ maxLen; unfold maxLen; omega, ?_⟩
  intro y hy
  rw [List.mem_singleton.1 hy]
  exact h x hx
theorem singles_one {v : List En} : ∀ l ∈ singles v, vCheck l = 0 → l.length ≤ 1 := by
  intro l hl _
  obtain ⟨x, _, rfl⟩ := List.mem_map.1 hl
  exact Nat.le_refl _
theorem ceilV_fit {k : Ck} (hf : FitsK k) : ∀ x ∈ ceilV k, x.a.size ≤ maxLen ∧ x.n < 18446744073709551616 := by
  intro x hx
  cases hd : k.d with
  | false => rw [ceilV_plain hd] at hx; exact hf.vec.2 x hx
  | true =>
    rw [ceilV_dot hd] at hx
    rcases put_mem hx with rfl | hx
    · exact ⟨hf.dot, hf.num⟩
    · exact hf.vec.2 x hx
set_option maxRecDepth 100000 in
set_option maxHeartbeats 8000000 in
theorem rceil12 (w : World) (ao : Option Addr) (cap : Nat) (l : List Ck) (hl : l.length ≤ 100) (hf : ∀ k ∈ l, FitsK k) (hc : ClksAt w ao l) :
    Calls Try.prog 19 #[.slice ao l.length cap] w (REnsE (kCeil l) w) := by
  have HC : Hid (ClksAt w ao l) := hc
  have HF : Hid (∀ k ∈ l, FitsK k) := hf
  have hl' : (l.length : Int) ≤ 9223372036854775807 := by omega
  have HE : Hid (∀ (W : World) (e : Ending), kCeil l = ([], 1) → e = .returned (.tuple #[.slice none 0 0, .int .i64 1]) → Keep0 w W → REnsE (kCeil l) w e W) := fun _ _ h1 h2 h3 => REnsE.bare h1 h2 h3
  have HM : Hid (∀ (W0 W : World) (e : Ending), Keep0 w W0 → REnsE (kCeil l) W0 e W → REnsE (kCeil l) w e W) := by
    rintro W0 W e K ⟨bo, c, h1, h2, h3, h4⟩
    exact ⟨bo, c, h1, h2, (fun g off m e => Nat.le_trans K.size (h3 g off m e)), K.trans h4⟩
  clear hc hf
  obtain ⟨B, hB⟩ : ∃ B, w.heap.size = B := ⟨_, rfl⟩
  have HB : Hid (w.heap.size = B) := hB
  have HS0 : Hid (Sing w B (.slice none 0 0) []) := Sing.new w B
  clear hB
  go_enter Try.func19, Try.ntmps19
  go_wp2_with fail
  go_loopw [4, 5] (fun v i wr => ∃ (k : Nat), i = .int .i64 (k : Int) ∧ k ≤ l.length ∧ Hid (Sing wr B v ((l.take k).flatMap ceilV)) ∧ Hid (∀ y ∈ l.take k, Right y) ∧ Keep0 w wr) (fun _ i _ => l.length - (intOf i).toNat)
  case atStart => exact ⟨0, rfl, by omega, HS0, (fun y h => by cases h), Keep.refl _ _⟩
  case round =>
    obtain ⟨k, rfl, hk, HS, HR, hK⟩ := hrel
    clear HS0
    obtain ⟨vo0, vc0, rfl, hsh0⟩ := HS.out.shape
    clear hsh0
    by_cases hlt : k < l.length
    · have i1 : (k : Int) < l.length := by omega
      obtain ⟨b, off, to, tc, rfl, x4, hE⟩ := HC.out k hlt
      have x4 := x4.keep0 hK
      have hfk := HF.out l[k] (List.getElem_mem hlt)
      have yc := rcheck12 wr to tc l[k] hfk (hE.keep0 hK)
      by_cases h0 : kCheck l[k] = 0
      · have hR : Right l[k] := (right_iff _).1 h0
        have HR2 : Hid (∀ y ∈ l.take (k + 1), Right y) := by
          intro y hy
          rw [List.take_succ_eq_append_getElem hlt] at hy
          rcases List.mem_append.1 hy with hy | hy
          · exact HR.out y hy
          · rw [List.mem_singleton.1 hy]; exact hR
        have HP2 : Hid ((l.take (k + 1)).flatMap ceilV = (l.take k).flatMap ceilV ++ ceilV l[k]) := flatC_take hlt
        have hPl : ((l.take k).flatMap ceilV).length ≤ 6500 := by
          have h1 := flatC_len HR.out
          rw [List.length_take] at h1
          omega
        have hVl := ceilV_len hR
        have HX : Hid (ClkAt wr b (off + k * 4) l[k] to tc) := x4
        have HEw : Hid (EnsAt w to l[k].c) := hE
        have hcl := ((check_zero _).1 hR.vec).1
        have HFk : Hid (FitsK l[k]) := hfk
        have HRk : Hid (Right l[k]) := hR
        rw [h0] at yc
        have hcl2 : (l[k].c.length : Int) ≤ 9223372036854775807 := by omega
        clear HR h0 hfk hE hR
        generalize l[k] = y at *
        generalize (l.take k).flatMap ceilV = P at *
        obtain ⟨x0, x1, x2, x3⟩ := x4
        go_wp2_with fail
        refine yc.mono ?_
        rintro e w1 ⟨rfl, k1⟩
        have K1 := hK.trans k1
        have HS1 : Hid (Sing w1 B (.slice vo0 P.length vc0) P) := HS.out.keep0 k1
        have kE : Keep0 w1 (w1.alloc (.cells #[] 25)) := (Keep.refl _ w1).alloc _
        have hX1 := HX.out.keep0 k1
        have HX1 : Hid (ClkAt w1 b (off + k * 4) y to tc) := hX1
        obtain ⟨y0, y1, y2, y3⟩ := hX1.keep0 kE
        clear hX1
        have hr0 := row_empty w1 25 2
        have hsrc := (HEw.out.keep0 K1).keep0 kE
        have zE := kE.size
        clear yc k1 x0 x1 x2 x3 HS HX hK
        go_wp2_with (at_builtin; refine wpList_append_ens (l := []) rfl _ _ rfl rfl rfl hr0 hsrc ?c1 ?c2 ?_)
        case c1 => first | exact zE | omega
        case c2 => first | omega | (show 0 + y.c.length ≤ 1000000; omega)
        intro va w2 hxa hga
        have kG : Keep0 w1 w2 := kE.ownGrown hga (fun g hg => Nat.le_of_eq (by simpa [Value.ownBlock] using hg))
        have K2 := K1.trans kG
        have HS2 : Hid (Sing w2 B (.slice vo0 P.length vc0) P) := HS1.out.keep0 kG
        obtain ⟨vo, vc, rfl, hEv, hVb, _⟩ := ens_of_row hxa
        have HAp : Hid (∀ g off m, vo = some ⟨g, off, m⟩ → (Value.slice vo0 P.length vc0).ownBlock ≠ some g) := fun g off m e f => by have h1 := hVb g off m e; have h2 := (HS1.out.lt g f).2; omega
        obtain ⟨z0, z1, z2, z3⟩ := HX1.out.keep0 kG
        have zG := kG.size
        have HLt : Hid (∀ g, (Value.slice vo0 P.length vc0).ownBlock = some g → g < w2.heap.size) := fun g f => by have h2 := (HS1.out.lt g f).2; omega
        clear hxa hga kE hr0 hsrc zE y0 y1 y2 y3 K1 HS1 HX1 kG hVb
        cases hd : y.d with
        | false =>
          have HP3 : Hid ((l.take (k + 1)).flatMap ceilV = P ++ y.c) := by show _ = P ++ y.c; rw [HP2.out, ceilV_plain hd]
          rw [ceilV_plain hd] at hVl
          rw [hd] at z1
          clear HP2 HRk HFk hd HLt
          generalize hV : y.c = V at *
          clear hV
          go_wp2_with fail
          generalize hw2 : w2 = WS at *
          clear hw2
          have hV' : (V.length : Int) ≤ 9223372036854775807 := by omega
          have HK2 : Hid (Keep0 w WS) := K2
          have HEv : Hid (EnsAt WS vo V) := hEv
          clear K2 hEv
          go_loopw [4, 7] (fun v i wr => ∃ (j : Nat), i = .int .i64 (j : Int) ∧ j ≤ V.length ∧ Hid (Sing wr B v (P ++ V.take j)) ∧ Hid (∀ g off m, vo = some ⟨g, off, m⟩ → v.ownBlock ≠ some g) ∧ EnsAt wr vo V ∧ Keep0 w wr) (fun _ i _ => V.length - (intOf i).toNat)
          case atStart => exact ⟨0, rfl, by omega, by rw [List.take_zero, List.append_nil]; exact HS2, HAp, HEv.out, HK2.out⟩
          case round =>
            obtain ⟨j, rfl, hj, HS, HA, hEn, hK⟩ := hrel
            obtain ⟨wo, wc, hve, hsh⟩ := HS.out.shape
            subst hve
            clear hsh HS2 HAp HEv HK2
            by_cases hjt : j < V.length
            · have i2 : (j : Int) < V.length := by omega
              obtain ⟨g, goff, hge, p0, p1⟩ := hEn j hjt
              have HT : Hid (P ++ V.take (j + 1) = (P ++ V.take j) ++ [V[j]]) := by
                show _ = _
                rw [List.take_succ_eq_append_getElem hjt, List.append_assoc]
              have hQl : (P ++ V.take j).length ≤ 100000 := by rw [List.length_append, List.length_take]; omega
              have HgB : Hid (g < wr.heap.size) := by have := World.block_lt_of_cell? wr _ p0; exact this
              have hs := HS.out
              have hsz := hK.size
              have hB := HB.out
              have hBw : B ≤ wr.heap.size := by omega
              have HEn : Hid (EnsAt wr vo V) := hEn
              have HK : Hid (Keep0 w wr) := hK
              clear hEn HS hB hK hsz
              generalize V[j] = X at *
              generalize P ++ V.take j = Q at *
              subst hge
              go_wp2_with (at_builtin; refine wpList_append_sing rfl _ _ rfl rfl rfl hs hBw hQl rfl ?_)
              intro v' w' gS gK gA
              have HS' : Hid (Sing w' B v' (P ++ V.take (j + 1))) := by rw [HT.out]; exact gS
              have HA' : Hid (∀ g2 off2 m, some (⟨g, goff, none⟩ : Addr) = some ⟨g2, off2, m⟩ → v'.ownBlock ≠ some g2) := by
                intro g2 off2 m e f
                cases e
                rcases gA with gA | ⟨g3, gA, hle⟩
                · rw [gA] at f
                  exact HA.out g goff none rfl f
                · rw [gA] at f
                  cases f
                  have := HgB.out
                  omega
              have hEn' : EnsAt w' (some ⟨g, goff, none⟩) V := HEn.out.keep gK (fun b2 off2 m e f => HA.out b2 off2 m e f)
              have K' : Keep0 w w' := HK.out.step gK (fun i hi f => by have h1 := (hs.lt i f).1; have h2 := HB.out; omega)
              obtain ⟨ro, rc, hre, hrs⟩ := HS'.out.shape
              subst hre
              clear hrs gS gK gA hs HA HEn HK p0 p1
              go_wp2
              go_roundw
              case rel => exact ⟨j + 1, by go_num, by omega, HS', HA', hEn', K'⟩
              case measure => simp [intOf]; omega
            · have i2 : ¬ (j : Int) < V.length := by omega
              have hs := HS.out
              rw [List.take_of_length_le (by omega)] at hs
              have el : (P ++ V.take j).length = (P ++ V).length := by rw [List.take_of_length_le (by omega)]
              rw [el]
              rw [← HP3.out] at hs
              rw [← HP3.out]
              have HS' : Hid (Sing wr B (.slice wo ((l.take (k + 1)).flatMap ceilV).length wc) ((l.take (k + 1)).flatMap ceilV)) := hs
              clear hs HS el HA hEn
              go_wp2
              go_roundw
              case rel => exact ⟨k + 1, by go_num, by omega, HS', HR2, hK⟩
              case measure => simp [intOf]; omega
        | true =>
          have HP3 : Hid ((l.take (k + 1)).flatMap ceilV = P ++ vPut y.c y.x) := by show _ = P ++ vPut y.c y.x; rw [HP2.out, ceilV_dot hd]
          rw [ceilV_dot hd] at hVl
          rw [hd] at z1
          have yp := rput10 w2 vo vc y.c (by omega) (fun u hu => (HFk.out.vec.2 u hu).1) hEv y.x HFk.out.dot
          clear HP2 HRk hd HAp
          generalize hV : vPut y.c y.x = V at *
          clear hV
          go_wp2_with fail
          refine yp.mono ?_
          rintro e WS ⟨so, sc, rfl, q1, q2, k3⟩
          have K2 := K2.trans k3
          have HS2 : Hid (Sing WS B (.slice vo0 P.length vc0) P) := HS2.out.keep0 k3
          have HAp : Hid (∀ g off m, so = some ⟨g, off, m⟩ → (Value.slice vo0 P.length vc0).ownBlock ≠ some g) := fun g off m e f => by have h1 := q2 g off m e; have h2 := HLt.out g f; omega
          clear yp k3 q2 hEv HLt z0 z1 z2 z3 HFk
          have hEv := q1
          clear q1
          go_wp2_with fail
          have hV' : (V.length : Int) ≤ 9223372036854775807 := by omega
          have HK2 : Hid (Keep0 w WS) := K2
          have HEv : Hid (EnsAt WS so V) := hEv
          clear K2 hEv
          go_loopw [4, 7] (fun v i wr => ∃ (j : Nat), i = .int .i64 (j : Int) ∧ j ≤ V.length ∧ Hid (Sing wr B v (P ++ V.take j)) ∧ Hid (∀ g off m, so = some ⟨g, off, m⟩ → v.ownBlock ≠ some g) ∧ EnsAt wr so V ∧ Keep0 w wr) (fun _ i _ => V.length - (intOf i).toNat)
          case atStart => exact ⟨0, rfl, by omega, by rw [List.take_zero, List.append_nil]; exact HS2, HAp, HEv.out, HK2.out⟩
          case round =>
            obtain ⟨j, rfl, hj, HS, HA, hEn, hK⟩ := hrel
            obtain ⟨wo, wc, hve, hsh⟩ := HS.out.shape
            subst hve
            clear hsh HS2 HAp HEv HK2
            by_cases hjt : j < V.length
            · have i2 : (j : Int) < V.length := by omega
              obtain ⟨g, goff, hge, p0, p1⟩ := hEn j hjt
              have HT : Hid (P ++ V.take (j + 1) = (P ++ V.take j) ++ [V[j]]) := by
                show _ = _
                rw [List.take_succ_eq_append_getElem hjt, List.append_assoc]
              have hQl : (P ++ V.take j).length ≤ 100000 := by rw [List.length_append, List.length_take]; omega
              have HgB : Hid (g < wr.heap.size) := by have := World.block_lt_of_cell? wr _ p0; exact this
              have hs := HS.out
              have hsz := hK.size
              have hB := HB.out
              have hBw : B ≤ wr.heap.size := by omega
              have HEn : Hid (EnsAt wr so V) := hEn
              have HK : Hid (Keep0 w wr) := hK
              clear hEn HS hB hK hsz
              generalize V[j] = X at *
              generalize P ++ V.take j = Q at *
              subst hge
              go_wp2_with (at_builtin; refine wpList_append_sing rfl _ _ rfl rfl rfl hs hBw hQl rfl ?_)
              intro v' w' gS gK gA
              have HS' : Hid (Sing w' B v' (P ++ V.take (j + 1))) := by rw [HT.out]; exact gS
              have HA' : Hid (∀ g2 off2 m, some (⟨g, goff, none⟩ : Addr) = some ⟨g2, off2, m⟩ → v'.ownBlock ≠ some g2) := by
                intro g2 off2 m e f
                cases e
                rcases gA with gA | ⟨g3, gA, hle⟩
                · rw [gA] at f
                  exact HA.out g goff none rfl f
                · rw [gA] at f
                  cases f
                  have := HgB.out
                  omega
              have hEn' : EnsAt w' (some ⟨g, goff, none⟩) V := HEn.out.keep gK (fun b2 off2 m e f => HA.out b2 off2 m e f)
              have K' : Keep0 w w' := HK.out.step gK (fun i hi f => by have h1 := (hs.lt i f).1; have h2 := HB.out; omega)
              obtain ⟨ro, rc, hre, hrs⟩ := HS'.out.shape
              subst hre
              clear hrs gS gK gA hs HA HEn HK p0 p1
              go_wp2
              go_roundw
              case rel => exact ⟨j + 1, by go_num, by omega, HS', HA', hEn', K'⟩
              case measure => simp [intOf]; omega
            · have i2 : ¬ (j : Int) < V.length := by omega
              have hs := HS.out
              rw [List.take_of_length_le (by omega)] at hs
              have el : (P ++ V.take j).length = (P ++ V).length := by rw [List.take_of_length_le (by omega)]
              rw [el]
              rw [← HP3.out] at hs
              rw [← HP3.out]
              have HS' : Hid (Sing wr B (.slice wo ((l.take (k + 1)).flatMap ceilV).length wc) ((l.take (k + 1)).flatMap ceilV)) := hs
              clear hs HS el HA hEn
              go_wp2
              go_roundw
              case rel => exact ⟨k + 1, by go_num, by omega, HS', HR2, hK⟩
              case measure => simp [intOf]; omega
      · have HV : Hid (kCeil l = ([], 1)) := ceil_no (kRights_no hlt h0)
        have e0 : (kCheck l[k] != 0) = true := by simpa using h0
        clear HM HS HR h0 hfk hE
        generalize kCheck l[k] = C at *
        obtain ⟨x0, x1, x2, x3⟩ := x4
        generalize l[k] = y at *
        go_wp2_with fail
        refine yc.mono ?_
        rintro e w1 ⟨rfl, k1⟩
        have K1 := hK.trans k1
        clear yc k1 hK
        go_wp2
        go_ret2
        exact HE.out _ _ HV.out rfl K1
    · have i1 : ¬ (k : Int) < l.length := by omega
      have hr := HR.out
      have hs := HS.out
      rw [List.take_of_length_le (by omega)] at hr hs
      have hkr := kRights_iff.2 hr
      have hj := ceil_join hkr
      have hle := flatC_len hr
      have hfit : ∀ x ∈ l.flatMap ceilV, x.a.size ≤ maxLen ∧ x.n < 18446744073709551616 := by
        intro x hx
        obtain ⟨y, hy, hx⟩ := List.mem_flatMap.1 hx
        exact ceilV_fit (HF.out y hy) x hx
      have e1 : ((l.take k).flatMap ceilV).length = (l.flatMap ceilV).length := by rw [List.take_of_length_le (by omega)]
      rw [e1]
      obtain ⟨so, sc, e2, hV⟩ := hs.shape
      have yj := rjoin10m 1 wr so sc (singles (l.flatMap ceilV)) (by rw [singles_len]; omega) (by rw [singles_len]; omega) singles_one (singles_fit hfit) hV
      rw [hj, singles_len] at yj
      cases e2
      clear hr hs hkr hj hfit hV HS HR HE e1
      generalize (l.flatMap ceilV).length = PL at *
      go_wp2_with fail
      refine yj.mono ?_
      rintro e w4 h4
      have h5 := HM.out _ _ _ hK h4
      obtain ⟨bo, c, rfl, _⟩ := h4
      have H5 : Hid (REnsE (kCeil l) w (.returned (.tuple #[.slice bo (kCeil l).1.length c, .int .i64 (kCeil l).2])) w4) := h5
      clear h5 yj HM
      generalize (kCeil l).1.length = VL at *
      generalize (kCeil l).2 = VE at *
      go_wp2
      go_ret2
      exact H5.out
end Go.Proofs.Ytkbihpdfafapeaa
