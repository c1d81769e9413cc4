/-
  What this seat's claims lean on of the texts OlC.
  Conditions: as each theorem states.
-/
import Derived.WalkKit
import Derived.ProofKit
import Derived.Below
import Derived.Deep.Draws
import Derived.Deep.RegionHeld
import Derived.Test.YtoefibkhlhmlfaaGreatChecked
import Derived.OpenShut
import Derived.ShutString
import Derived.WalkSpells
import Derived.WalkLawsBesides
import Derived.Deep.QuietTactic
import Derived.BigQuiet
import Derived.Laws.Bits64b
import Derived.PlainAid
import Derived.Lib.AppendStr
import Derived.Deep.AppendLies
import Derived.Laws.IdiomStrings
import Derived.Laws.BytesArg
import Derived.Deep.RegionWith
import Derived.Laws.AppendOwn
import Derived.Deep.DeepAppendWide
import Derived.Deep.Upon
import Derived.Maps.AppendAt
import Derived.Deep.Slices
import Derived.Laws.Rows
import Derived.Test.YtoefibkhlhmlfaaGreatY27
import Derived.Test.YtoefibkhlhmlfaaGreatY26
import Derived.Test.YtoefibkhlhmlfaaGreatY22
namespace Go.Proofs.YtoefibkhlhmlfaaGreat
open Go.RowKit
def keyE17 (s : ByteArray) (a : Int) : Int := if (bTxt s a 0 128).size = 0 then cFail (bErr s a 0 128) 14 else bErr s a 0 128
def cntE17 (s : ByteArray) (a x : Int) : Int := if kNum s a x 16 = 0 then cFail (kErr s a x 16) 7 else kErr s a x 16
theorem fail_no17 {x y : Int} (h : x ≠ 0) : cFail x y = x := if_neg h
theorem key_keep17 {s : ByteArray} {a : Int} (h : bErr s a 0 128 ≠ 0) : keyE17 s a = bErr s a 0 128 := by
  unfold keyE17
  split
  · exact fail_no17 h
  · rfl
theorem cnt_keep17 {s : ByteArray} {a x : Int} (h : kErr s a x 16 ≠ 0) : cntE17 s a x = kErr s a x 16 := by
  unfold cntE17
  split
  · exact fail_no17 h
  · rfl
section
variable {s : ByteArray} {a KA KE CA CE : Int}
theorem cnt_bad17 (h : KE ≠ 0) : kNum s KA KE 16 = 0 ∧ tAt s KA KE = KA ∧ cntE17 s KA KE = KE := by
  obtain ⟨h1, h2, h3⟩ := key_err (s := s) (a := KA) h
  exact ⟨h1, h3, by rw [cnt_keep17 (by rw [h2]; exact h), h2]⟩
theorem head_bad17 {N : Nat} (hKA : bAt s a 0 128 = KA) (hKE : keyE17 s a = KE) (hN : kNum s KA KE 16 = (N : Int)) (hCA : tAt s KA KE = CA) (hCE : cntE17 s KA KE = CE) (h : CE ≠ 0) : N = 0 ∧ rOl s a = (zOl, CA, CE) := by
  by_cases hb : bErr s a 0 128 = 0
  case neg =>
    have e1 : KE = bErr s a 0 128 := by rw [← hKE, key_keep17 hb]
    obtain ⟨c1, c2, c3⟩ := cnt_bad17 (s := s) (KA := KA) (KE := KE) (by rw [e1]; exact hb)
    refine ⟨by omega, ?_⟩
    rw [ol_1 hb, ← hCA, ← hCE, c2, c3, ← hKA, e1]
  by_cases hk : (bTxt s a 0 128).size = 0
  · have e1 : KE = 14 := by rw [← hKE]; unfold keyE17; rw [if_pos hk, hb]; rfl
    obtain ⟨c1, c2, c3⟩ := cnt_bad17 (s := s) (KA := KA) (KE := KE) (by rw [e1]; decide)
    refine ⟨by omega, ?_⟩
    rw [ol_2 hb hk, ← hCA, ← hCE, c2, c3, ← hKA, e1]
  have e1 : KE = 0 := by rw [← hKE]; unfold keyE17; rw [if_neg hk, hb]
  subst e1
  have hkey := key_yes hb hk
  rw [hKA] at hkey
  by_cases hc : kErr s KA 0 16 = 0
  case neg =>
    have hn := keyNum_bad hc
    refine ⟨by omega, ?_⟩
    have e2 := cnt_keep17 hc
    rw [ol_rest hkey, olT_1 hc, if_neg hc, hCA, ← e2, hCE]
  by_cases hn : kNum s KA 0 16 = 0
  · refine ⟨by omega, ?_⟩
    have e2 : CE = 7 := by rw [← hCE]; unfold cntE17; rw [if_pos hn, hc]; rfl
    rw [ol_rest hkey, olT_2 hc hn, hCA, e2]
    exact if_neg (show ¬ (7 : Int) = 0 by decide)
  · have e2 : CE = 0 := by rw [← hCE]; unfold cntE17; rw [if_neg hn, hc]
    exact absurd e2 h
theorem head_ok17 {N : Nat} {KT : ByteArray} (hKT : bTxt s a 0 128 = KT) (hKA : bAt s a 0 128 = KA) (hKE : keyE17 s a = KE) (hN : kNum s KA KE 16 = (N : Int)) (hCA : tAt s KA KE = CA) (hCE : cntE17 s KA KE = CE) (h : CE = 0) : N ≠ 0 ∧ N ≤ 16 ∧ rOl s a = (if (liftM [] (rOss N [] s CA)).2.2 = 0 then ((⟨KT, (liftM [] (rOss N [] s CA)).1⟩ : Ol), (liftM [] (rOss N [] s CA)).2) else (zOl, (liftM [] (rOss N [] s CA)).2)) := by
  have hKE0 : KE = 0 := by
    refine Decidable.byContradiction fun e => ?_
    have := (cnt_bad17 (s := s) (KA := KA) e).2.2
    rw [hCE, h] at this
    exact e this.symm
  subst hKE0
  have hb : bErr s a 0 128 = 0 := by
    refine Decidable.byContradiction fun e => ?_
    rw [key_keep17 e] at hKE
    exact e hKE
  have hk : (bTxt s a 0 128).size ≠ 0 := by
    intro e
    unfold keyE17 at hKE
    rw [if_pos e, hb] at hKE
    exact absurd hKE (by decide)
  have hc : kErr s KA 0 16 = 0 := by
    refine Decidable.byContradiction fun e => ?_
    rw [cnt_keep17 e, h] at hCE
    exact e hCE
  have hn : kNum s KA 0 16 ≠ 0 := by
    intro e
    unfold cntE17 at hCE
    rw [if_pos e, hc, h] at hCE
    exact absurd hCE (by decide)
  have hkey := key_yes hb hk
  rw [hKA, hKT] at hkey
  refine ⟨by omega, by have := kNum16 hc; omega, ?_⟩
  exact ol_end hkey hc hN (by omega) hCA rfl
end
set_option maxRecDepth 100000 in
set_option maxHeartbeats 4000000 in
theorem takeKey17 {w : World} {b : Nat} {s : ByteArray} {a : Int} (h : Cur w b s a 0) :
    Calls Tryz.prog 160 #[ptr b] w fun e w' => e = .returned (.string (bTxt s a 0 128)) ∧ Cur w' b s (bAt s a 0 128) (keyE17 s a) ∧ Keep1 b w w' := by
  have yb := blob6_any 128 (by decide) h
  unfold keyE17
  by_cases he : (bTxt s a 0 128).size = 0
  · rw [if_pos he]
    have e0 := empty_eq17 he
    rw [e0] at yb ⊢
    have yf := fun W (h : Cur W b s (bAt s a 0 128) (bErr s a 0 128)) => fail_any 14 h
    clear h he e0
    generalize cFail (bErr s a 0 128) 14 = F at *
    generalize bAt s a 0 128 = A2 at *
    generalize bErr s a 0 128 = E2 at *
    go_enter Tryz.func160, Tryz.ntmps160
    go_wp2_with fail
    refine yb.mono ?_
    rintro e w1 ⟨rfl, h1, k1⟩
    clear yb
    go_wp2_with fail
    refine (yf _ h1).mono ?_
    rintro e w2 ⟨rfl, h2, k2⟩
    have K2 := k1.trans k2
    clear yf k1 k2 h1
    go_wp2
    go_ret
    exact ⟨rfl, h2, K2⟩
  · rw [if_neg he]
    have e1 := empty_no17 he
    clear h he
    generalize bTxt s a 0 128 = KT at *
    generalize bAt s a 0 128 = A2 at *
    generalize bErr s a 0 128 = E2 at *
    go_enter Tryz.func160, Tryz.ntmps160
    go_wp2_with fail
    refine yb.mono ?_
    rintro e w1 ⟨rfl, h1, k1⟩
    clear yb
    go_wp2
    go_ret
    exact ⟨rfl, h1, k1⟩
set_option maxRecDepth 100000 in
set_option maxHeartbeats 4000000 in
theorem takeCount17 {w : World} {b : Nat} {s : ByteArray} {a x : Int} (h : Cur w b s a x) :
    Calls Tryz.prog 161 #[ptr b] w fun e w' => e = .returned (.int .i64 (kNum s a x 16)) ∧ Cur w' b s (tAt s a x) (cntE17 s a x) ∧ Keep1 b w w' := by
  have yb := count6_any 16 (by decide) h
  unfold cntE17
  by_cases he : kNum s a x 16 = 0
  · rw [if_pos he]
    rw [he] at yb ⊢
    have yf := fun W (h : Cur W b s (tAt s a x) (kErr s a x 16)) => fail_any 7 h
    clear h he
    generalize cFail (kErr s a x 16) 7 = F at *
    generalize tAt s a x = A2 at *
    generalize kErr s a x 16 = E2 at *
    go_enter Tryz.func161, Tryz.ntmps161
    go_wp2_with fail
    refine yb.mono ?_
    rintro e w1 ⟨rfl, h1, k1⟩
    clear yb
    go_wp2_with fail
    refine (yf _ h1).mono ?_
    rintro e w2 ⟨rfl, h2, k2⟩
    have K2 := k1.trans k2
    clear yf k1 k2 h1
    go_wp2
    go_ret
    exact ⟨rfl, h2, K2⟩
  · rw [if_neg he]
    have e1 : (kNum s a x 16 == 0) = false := beq_eq_false_iff_ne.2 he
    clear h
    generalize kNum s a x 16 = KT at *
    generalize tAt s a x = A2 at *
    generalize kErr s a x 16 = E2 at *
    go_enter Tryz.func161, Tryz.ntmps161
    go_wp2_with fail
    refine yb.mono ?_
    rintro e w1 ⟨rfl, h1, k1⟩
    clear yb
    go_wp2
    go_ret
    exact ⟨rfl, h1, k1⟩
theorem TAt.put {w : World} {g : Nat} {v0 v1 v2 : Value} (h : TAt w g v0 v1 v2) (u0 u1 u2 : Value) : TAt (((w.setCell ⟨g, 0, none⟩ u0).setCell ⟨g, 1, none⟩ u1).setCell ⟨g, 2, none⟩ u2) g u0 u1 u2 := ((h.set0 u0).set1 u1).set2 u2
theorem put3_keep (w : World) (g : Nat) (u0 u1 u2 : Value) : Keep1 g w (((w.setCell ⟨g, 0, none⟩ u0).setCell ⟨g, 1, none⟩ u1).setCell ⟨g, 2, none⟩ u2) := (((Keep.refl _ w).set1 _ _).set1 _ _).set1 _ _
theorem retOs {fn : Func} {p : Tmp} (h : fn.results = #[.cell p 56]) (tmps : Array Value) (w : World) (g : Nat) {v0 v1 v2 : Value}
    (hp : tmps.getD p undef = .pointer (some ⟨g, 0, none⟩)) (hg : TAt w g v0 v1 v2) : (results fn tmps).run Tryz.prog w = .ok (.agg #[v0, v1, v2]) w := by
  obtain ⟨ty, hk⟩ := hg.blk
  exact results_cell_row h tmps w g ty _ _ _ hp hk Tryz.underlying56 rfl (by kernel_rfl)
theorem retOl {fn : Func} {p : Tmp} (h : fn.results = #[.cell p 24]) (tmps : Array Value) (w : World) (g : Nat) {v0 v1 : Value}
    (hp : tmps.getD p undef = .pointer (some ⟨g, 0, none⟩)) (hg : DAt w g v0 v1) : (results fn tmps).run Tryz.prog w = .ok (.agg #[v0, v1]) w := by
  obtain ⟨ty, hk⟩ := hg.blk
  exact results_cell_row h tmps w g ty _ _ _ hp hk Tryz.underlying24 rfl (by kernel_rfl)
theorem vec_ok17 {s : ByteArray} {a : Int} (h0 : 0 ≤ a) (h1 : a ≤ s.size) : Ok10 (rVec s a).1 := by
  have hn : Ok10 [] := by simp [Ok10]
  by_cases he : (rVec s a).2.2 = 0
  · obtain ⟨hk, hu⟩ := (vec_codec.read h0 h1 he).1
    obtain ⟨h2, h3⟩ := (check_zero _).1 hk
    exact ⟨by omega, fun y hy => ⟨by have := (h3.1 y hy).2.1; unfold maxLen; omega, hu y hy⟩⟩
  · by_cases hk : kErr s a 0 64 = 0
    · rw [vec_b hk] at he ⊢
      unfold lift at he ⊢
      split
      · rename_i h; rw [if_pos h] at he; exact absurd h he
      · exact hn
    · rw [vec_a hk]
      exact hn
theorem txt_le17 {s : ByteArray} {a x : Int} : (bTxt s a x 32768).size ≤ 1000000 := by
  by_cases h1 : bErr s a x 32768 = 0
  · obtain ⟨h0, _, h3, _, h5, _⟩ := blob_zero h1
    have hp : pMax 32768 = 32768 := rfl
    rw [hp] at h3
    have ht := tNum_lt s a x
    rw [h5]
    unfold cut
    rw [ByteArray.size_extract]
    omega
  · rw [bTxt_bad h1]; decide
theorem inL17 {O : List Po} {x : Os} {BE : Int} {k : Nat} : InL O x.c BE k (cFail BE (osTest (O.map Po.x) x)) := by
  by_cases h : BE = 0
  case neg => exact .inl ⟨h, fail_no17 h⟩
  subst h
  have e : cFail 0 (osTest (O.map Po.x) x) = osTest (O.map Po.x) x := if_pos rfl
  rw [e]
  unfold osTest
  by_cases hs : seenIn (O.map Po.x) x = true
  · rw [if_pos hs]
    obtain ⟨y, hy, hc⟩ := seenIn_iff.1 hs
    obtain ⟨p, hp, rfl⟩ := List.mem_map.1 hy
    obtain ⟨q, hq, rfl⟩ := List.mem_iff_getElem.1 hp
    exact .inr (.inr ⟨rfl, rfl, q, hq, hc⟩)
  · rw [if_neg hs]
    exact .inr (.inl ⟨rfl, rfl, fun q hq _ hc => hs (seenIn_iff.2 ⟨O[q].x, List.mem_map.2 ⟨_, List.getElem_mem hq, rfl⟩, hc⟩)⟩)
def RTS (X : Os) (A E : Int) (s : ByteArray) (b : Nat) (w : World) (e : Ending) (w' : World) : Prop := ∃ vo vc, e = .returned (.agg #[.slice vo X.c.length vc, .bool X.d, .string X.v]) ∧ Cur w' b s A E ∧ EnsAt w' vo X.c ∧ (∀ g off m, vo = some ⟨g, off, m⟩ → w.heap.size ≤ g) ∧ Keep1 b w w'
set_option maxRecDepth 100000 in
set_option maxHeartbeats 8000000 in
theorem takeSib17 {w : World} {b : Nat} {s : ByteArray} {a : Int} (h : Cur w b s a 0) (ao : Option Addr) (cap : Nat) (O : List Po) (hl : O.length ≤ maxLen) (hO : ∀ p ∈ O, Oks p.x) (hC : ∀ W, Keep1 b w W → PosAt W ao O)
    {V : List En} {A1 E1 : Int} (hV : rVec s a = (V, A1, E1)) {GB : Bool} (hGB : gSet s A1 E1 = GB) {GA GE : Int} (hGA : cAt s A1 E1 1 = GA) (hGE : gErr s A1 E1 = GE) {BT : ByteArray} (hBT : bTxt s GA GE 32768 = BT) {BA BE : Int} (hBA : bAt s GA GE 32768 = BA) (hBE : bErr s GA GE 32768 = BE) {F : Int} (hF : cFail BE (osTest (O.map Po.x) ⟨V, GB, BT⟩) = F) :
    Calls Tryz.prog 162 #[ptr b, .slice ao O.length cap] w (RTS ⟨V, GB, BT⟩ BA F s b w) := by
  have HM : Hid (∀ (W : World) (e : Ending) (vo : Option Addr) (vc : Nat), e = .returned (.agg #[.slice vo V.length vc, .bool GB, .string BT]) → Cur W b s BA F → EnsAt W vo V → (∀ g off m, vo = some ⟨g, off, m⟩ → w.heap.size ≤ g) → Keep1 b w W → RTS ⟨V, GB, BT⟩ BA F s b w e W) := fun _ _ vo vc h1 h2 h3 h4 h5 => ⟨vo, vc, h1, h2, h3, h4, h5⟩
  have HB : Hid (b < w.heap.size) := h.lt
  have okv : Ok10 V := by have := vec_ok17 h.lo h.hi; rw [hV] at this; exact this
  have okx : Oks ⟨V, GB, BT⟩ := ⟨okv, by rw [← hBT]; exact txt_le17⟩
  have kA : Keep0 w ((w.alloc (.cells #[.slice none 0 0, .bool false, .string ⟨#[]⟩] 56)).alloc (.cells #[.slice none 0 0, .bool false, .string ⟨#[]⟩] 56)) := ((Keep.refl _ w).alloc _).alloc _
  have q2 : TAt ((w.alloc (.cells #[.slice none 0 0, .bool false, .string ⟨#[]⟩] 56)).alloc (.cells #[.slice none 0 0, .bool false, .string ⟨#[]⟩] 56)) w.heap.size (.slice none 0 0) (.bool false) (.string ⟨#[]⟩) := (TAt.new w 56 (.slice none 0 0) (.bool false) (.string ⟨#[]⟩)).keep0 ((Keep.refl _ _).alloc _)
  have q3 : TAt ((w.alloc (.cells #[.slice none 0 0, .bool false, .string ⟨#[]⟩] 56)).alloc (.cells #[.slice none 0 0, .bool false, .string ⟨#[]⟩] 56)) (w.heap.size + 1) (.slice none 0 0) (.bool false) (.string ⟨#[]⟩) := by
    have := TAt.new (w.alloc (.cells #[.slice none 0 0, .bool false, .string ⟨#[]⟩] 56)) 56 (.slice none 0 0) (.bool false) (.string ⟨#[]⟩)
    rw [World.size_alloc] at this
    exact this
  have hcl := h.lt
  have z1 : ((w.alloc (.cells #[.slice none 0 0, .bool false, .string ⟨#[]⟩] 56)).alloc (.cells #[.slice none 0 0, .bool false, .string ⟨#[]⟩] 56)).heap.size = w.heap.size + 2 := by rw [World.size_alloc, World.size_alloc]
  have yt := take11 (h.keep0 kA)
  rw [rX_yes, hV] at yt
  have yg := fun W (h : Cur W b s A1 E1) => flag6_any h
  rw [hGB, hGA, hGE] at yg
  have yb := fun W (h : Cur W b s GA GE) => blob6_any 32768 (by decide) h
  rw [hBT, hBA, hBE] at yb
  have yw := fun W (K : Keep1 b w W) vo vc (hE : EnsAt W vo V) => twin17 W ao cap O ⟨⟨V, GB, BT⟩, vo, vc⟩ hl hO okx (hC W K) hE
  obtain ⟨D, hD⟩ : ∃ D, osTest (O.map Po.x) ⟨V, GB, BT⟩ = D := ⟨_, rfl⟩
  rw [hD] at hF
  have yw : ∀ W, Keep1 b w W → ∀ vo vc, EnsAt W vo V → Calls Tryz.prog 96 #[.slice ao O.length cap, .agg #[.slice vo V.length vc, .bool GB, .string BT]] W fun e w' => e = .returned (.int .i64 D) ∧ Keep0 W w' := by
    intro W K vo vc hE
    have := yw W K vo vc hE
    rw [← hD]
    exact this
  have yf := fun W (h : Cur W b s BA BE) => fail_any D h
  rw [hF] at yf
  clear hV hGB hGA hGE hBT hBA hBE hF hD okv okx hC hO hl
  obtain ⟨u0, u1, u2, f0, f1, f2⟩ := q2.cells
  obtain ⟨t0, t1, t2, h0, h1, h2⟩ := q3.cells
  go_enter Tryz.func162, Tryz.ntmps162
  go_wp2_with fail
  generalize ((w.alloc (.cells #[.slice none 0 0, .bool false, .string ⟨#[]⟩] 56)).alloc (.cells #[.slice none 0 0, .bool false, .string ⟨#[]⟩] 56)) = WB at *
  obtain ⟨g2, hg2⟩ : ∃ g2, w.heap.size = g2 := ⟨_, rfl⟩
  rw [hg2] at q2 q3 z1 hcl ⊢
  obtain ⟨g3, hg3⟩ : ∃ g3, g2 + 1 = g3 := ⟨_, rfl⟩
  rw [hg3] at q3 ⊢
  have n2 : g2 ≠ b := by omega
  have n3 : g3 ≠ b := by omega
  have n23 : g2 ≠ g3 := by omega
  refine yt.mono ?_
  rintro e w1 ⟨vo, vc, rfl, c1, hE1, hF1, k1⟩
  replace c1 : Cur w1 b s A1 E1 := c1
  replace hE1 : EnsAt w1 vo V := hE1
  dsimp only
  have K1 : Keep1 b w w1 := (kA.any (R := fun i => i = b)).trans k1
  have q2a := q2.keep k1 n2
  have q3a := q3.keep k1 n3
  have HF : Hid (∀ g off m, vo = some ⟨g, off, m⟩ → g2 + 2 ≤ g) := fun g off m e => by have := hF1 g off m e; omega
  have HZ : Hid (g2 + 2 ≤ w1.heap.size) := by show _ ≤ _; have := k1.size; omega
  have HG2 : Hid (w.heap.size = g2) := hg2
  have HG3 : Hid (g2 + 1 = g3) := hg3
  clear yt kA k1 q2 q3 hF1 z1 hcl hg2 hg3 h u0 u1 u2 f0 f1 f2 t0 t1 t2 h0 h1 h2
  have kS1 : Keep1 g3 w1 (w1.setCell ⟨g3, 0, none⟩ (.slice vo V.length vc)) := (Keep.refl _ w1).set1 _ _
  have cS1 := c1.keep kS1 (fun e => n3 e.symm)
  have q2S1 := q2a.keep kS1 n23
  have q3S1 := q3a.set0 (.slice vo V.length vc)
  have hES1 := hE1.keep kS1 (fun g off m e hh => by have := HF.out g off m e; have := HG3.out; omega)
  have KS1 := K1.step1 kS1 (by have := HG2.out; have := HG3.out; omega)
  have HZ1 : Hid (g2 + 2 ≤ (w1.setCell ⟨g3, 0, none⟩ (.slice vo V.length vc)).heap.size) := by show _ ≤ _; have := kS1.size; have := HZ.out; omega
  obtain ⟨u0, u1, u2, f0, f1, f2⟩ := q2a.cells
  obtain ⟨t0, t1, t2, h0, h1, h2⟩ := q3a.cells
  obtain ⟨xu0, xu1, xu2, xf0, xf1, xf2⟩ := q2S1.cells
  obtain ⟨xt0, xt1, xt2, xh0, xh1, xh2⟩ := q3S1.cells
  go_wp2_with fail
  clear u0 u1 u2 f0 f1 f2 t0 t1 t2 h0 h1 h2
  clear xu0 xu1 xu2 xf0 xf1 xf2 xt0 xt1 xt2 xh0 xh1 xh2
  clear kS1 c1 q2a q3a K1 hE1 HZ
  have HZ := HZ1
  clear HZ1
  generalize (w1.setCell ⟨g3, 0, none⟩ (.slice vo V.length vc)) = V1 at *
  refine (yg _ cS1).mono ?_
  rintro e w3 ⟨rfl, c3, k3⟩
  have q2b3 := q2S1.keep k3 n2
  have q3b3 := q3S1.keep k3 n3
  have hEb3 := hES1.keep k3 (fun g off mm e hh => by have := HF.out g off mm e; have := HB.out; have := HG2.out; omega)
  have Kb3 := KS1.trans k3
  have HZb : Hid (g2 + 2 ≤ w3.heap.size) := by show _ ≤ _; have := k3.size; have := HZ.out; omega
  clear k3 cS1 q2S1 q3S1 KS1 hES1 HZ
  have HZ := HZb
  clear HZb yg
  have kS4 : Keep1 g3 w3 (w3.setCell ⟨g3, 1, none⟩ (.bool GB)) := (Keep.refl _ w3).set1 _ _
  have cS4 := c3.keep kS4 (fun e => n3 e.symm)
  have q2S4 := q2b3.keep kS4 n23
  have q3S4 := q3b3.set1 (.bool GB)
  have hES4 := hEb3.keep kS4 (fun g off m e hh => by have := HF.out g off m e; have := HG3.out; omega)
  have KS4 := Kb3.step1 kS4 (by have := HG2.out; have := HG3.out; omega)
  have HZ4 : Hid (g2 + 2 ≤ (w3.setCell ⟨g3, 1, none⟩ (.bool GB)).heap.size) := by show _ ≤ _; have := kS4.size; have := HZ.out; omega
  obtain ⟨u0, u1, u2, f0, f1, f2⟩ := q2b3.cells
  obtain ⟨t0, t1, t2, h0, h1, h2⟩ := q3b3.cells
  obtain ⟨xu0, xu1, xu2, xf0, xf1, xf2⟩ := q2S4.cells
  obtain ⟨xt0, xt1, xt2, xh0, xh1, xh2⟩ := q3S4.cells
  go_wp2_with fail
  clear u0 u1 u2 f0 f1 f2 t0 t1 t2 h0 h1 h2
  clear xu0 xu1 xu2 xf0 xf1 xf2 xt0 xt1 xt2 xh0 xh1 xh2
  clear kS4 c3 q2b3 q3b3 Kb3 hEb3 HZ
  have HZ := HZ4
  clear HZ4
  generalize (w3.setCell ⟨g3, 1, none⟩ (.bool GB)) = V4 at *
  refine (yb _ cS4).mono ?_
  rintro e w6 ⟨rfl, c6, k6⟩
  have q2b6 := q2S4.keep k6 n2
  have q3b6 := q3S4.keep k6 n3
  have hEb6 := hES4.keep k6 (fun g off mm e hh => by have := HF.out g off mm e; have := HB.out; have := HG2.out; omega)
  have Kb6 := KS4.trans k6
  have HZb : Hid (g2 + 2 ≤ w6.heap.size) := by show _ ≤ _; have := k6.size; have := HZ.out; omega
  clear k6 cS4 q2S4 q3S4 KS4 hES4 HZ
  have HZ := HZb
  clear HZb yb
  have kS7 : Keep1 g3 w6 (w6.setCell ⟨g3, 2, none⟩ (.string BT)) := (Keep.refl _ w6).set1 _ _
  have cS7 := c6.keep kS7 (fun e => n3 e.symm)
  have q2S7 := q2b6.keep kS7 n23
  have q3S7 := q3b6.set2 (.string BT)
  have hES7 := hEb6.keep kS7 (fun g off m e hh => by have := HF.out g off m e; have := HG3.out; omega)
  have KS7 := Kb6.step1 kS7 (by have := HG2.out; have := HG3.out; omega)
  have HZ7 : Hid (g2 + 2 ≤ (w6.setCell ⟨g3, 2, none⟩ (.string BT)).heap.size) := by show _ ≤ _; have := kS7.size; have := HZ.out; omega
  obtain ⟨u0, u1, u2, f0, f1, f2⟩ := q2b6.cells
  obtain ⟨t0, t1, t2, h0, h1, h2⟩ := q3b6.cells
  obtain ⟨xu0, xu1, xu2, xf0, xf1, xf2⟩ := q2S7.cells
  obtain ⟨xt0, xt1, xt2, xh0, xh1, xh2⟩ := q3S7.cells
  have yw := yw _ KS7 vo vc hES7
  go_wp2_with fail
  clear u0 u1 u2 f0 f1 f2 t0 t1 t2 h0 h1 h2
  clear xu0 xu1 xu2 xf0 xf1 xf2 xt0 xt1 xt2 xh0 xh1 xh2
  clear kS7 c6 q2b6 q3b6 Kb6 hEb6 HZ
  have HZ := HZ7
  clear HZ7
  generalize (w6.setCell ⟨g3, 2, none⟩ (.string BT)) = V7 at *
  refine yw.mono ?_
  rintro e w8 ⟨rfl, k8⟩
  have c8 := cS7.keep0 k8
  have q28 := q2S7.keep0 k8
  have q38 := q3S7.keep0 k8
  have hE8 := hES7.keep0 k8
  have K8 := KS7.step0 k8
  have HZ8 : Hid (g2 + 2 ≤ w8.heap.size) := by show _ ≤ _; have := k8.size; have := HZ.out; omega
  have yf := yf _ c8
  clear yw k8 cS7 q2S7 q3S7 hES7 KS7 HZ c8
  obtain ⟨u0, u1, u2, f0, f1, f2⟩ := q28.cells
  obtain ⟨t0, t1, t2, h0, h1, h2⟩ := q38.cells
  go_wp2_with fail
  refine yf.mono ?_
  rintro e w9 ⟨rfl, c9, k9⟩
  have q29 := q28.keep k9 n2
  have q39 := q38.keep k9 n3
  have hE9 := hE8.keep k9 (fun g off mm e hh => by have := HF.out g off mm e; have := HB.out; have := HG2.out; omega)
  have K9 := K8.trans k9
  clear yf k9 q28 q38 hE8 K8 u0 u1 u2 f0 f1 f2 t0 t1 t2 h0 h1 h2
  obtain ⟨u0, u1, u2, f0, f1, f2⟩ := q29.cells
  obtain ⟨t0, t1, t2, h0, h1, h2⟩ := q39.cells
  go_wp2
  refine bodyPost_ret (retOs rfl _ _ _ rfl (q29.put (.slice vo V.length vc) (.bool GB) (.string BT))) rfl ?_
  exact HM.out _ _ vo vc rfl (c9.keep (put3_keep _ _ _ _ _) (fun e => n2 e.symm)) (hE9.keep (put3_keep _ _ _ _ _) (fun g off m e hh => by have := HF.out g off m e; omega)) (fun g off m e => by have := HF.out g off m e; have := HG2.out; omega) (K9.step1 (put3_keep _ _ _ _ _) (by have := HG2.out; omega))
def RTO (r : Ol × Int × Int) (s : ByteArray) (b : Nat) (w : World) (e : Ending) (w' : World) : Prop := ∃ K ao cap L, e = .returned (.agg #[.string K, .slice ao (L : List Po).length cap]) ∧ Cur w' b s r.2.1 r.2.2 ∧ (r.2.2 = 0 → r.1 = ⟨K, L.map Po.x⟩) ∧ NewO w.heap.size w' ao L ∧ (L.length ≤ cap ∧ cap ≤ maxLen) ∧ Keep1 b w w'
set_option maxRecDepth 100000 in
set_option maxHeartbeats 8000000 in
theorem take17 {w : World} {b : Nat} {s : ByteArray} {a : Int} (h : Cur w b s a 0) :
    Calls Tryz.prog 122 #[ptr b] w (RTO (rOl s a) s b w) := by
  have HM : Hid (∀ (W : World) (e : Ending) (A E : Int) (K : ByteArray) (L : List Po) (ao : Option Addr) (cap : Nat), (rOl s a).2 = (A, E) → (E = 0 → (rOl s a).1 = ⟨K, L.map Po.x⟩) → e = .returned (.agg #[.string K, .slice ao L.length cap]) → Cur W b s A E → NewO w.heap.size W ao L → (L.length ≤ cap ∧ cap ≤ maxLen) → Keep1 b w W → RTO (rOl s a) s b w e W) := by
    intro W e A E K L ao cap h1 h2 h3 h4 h5 h6 h7
    refine ⟨K, ao, cap, L, h3, ?_, ?_, h5, h6, h7⟩
    · rw [h1]; exact h4
    · rw [h1]; exact h2
  have HB : Hid (b < w.heap.size) := h.lt
  have kA : Keep0 w (w.alloc (.cells #[.string ⟨#[]⟩, .slice none 0 0] 24)) := (Keep.refl _ w).alloc _
  have q2 : DAt (w.alloc (.cells #[.string ⟨#[]⟩, .slice none 0 0] 24)) w.heap.size (.string ⟨#[]⟩) (.slice none 0 0) := DAt.new w 24 (.string ⟨#[]⟩) (.slice none 0 0)
  have hcl := h.lt
  have z1 : (w.alloc (.cells #[.string ⟨#[]⟩, .slice none 0 0] 24)).heap.size = w.heap.size + 1 := by rw [World.size_alloc]
  have yk := takeKey17 (h.keep0 kA)
  obtain ⟨KT, hKT⟩ : ∃ z, bTxt s a 0 128 = z := ⟨_, rfl⟩
  obtain ⟨KA, hKA⟩ : ∃ z, bAt s a 0 128 = z := ⟨_, rfl⟩
  obtain ⟨KE, hKE⟩ : ∃ z, keyE17 s a = z := ⟨_, rfl⟩
  rw [hKT, hKA, hKE] at yk
  have yc := fun W (h : Cur W b s KA KE) => takeCount17 h
  have hkb := kNum_bd s KA KE 16
  obtain ⟨N, hN⟩ : ∃ N : Nat, kNum s KA KE 16 = (N : Int) := ⟨(kNum s KA KE 16).toNat, by omega⟩
  obtain ⟨CA, hCA⟩ : ∃ z, tAt s KA KE = z := ⟨_, rfl⟩
  obtain ⟨CE, hCE⟩ : ∃ z, cntE17 s KA KE = z := ⟨_, rfl⟩
  rw [hN, hCA, hCE] at yc
  have HBad : Hid (CE ≠ 0 → N = 0 ∧ rOl s a = (zOl, CA, CE)) := head_bad17 hKA hKE hN hCA hCE
  have HOk0 : Hid (CE = 0 → N ≠ 0 ∧ N ≤ 16 ∧ rOl s a = (if (liftM [] (rOss N [] s CA)).2.2 = 0 then ((⟨KT, (liftM [] (rOss N [] s CA)).1⟩ : Ol), (liftM [] (rOss N [] s CA)).2) else (zOl, (liftM [] (rOss N [] s CA)).2))) := head_ok17 hKT hKA hKE hN hCA hCE
  clear hKT hKA hKE hN hCA hCE hkb h
  go_enter Tryz.func122, Tryz.ntmps122
  go_wp2_with fail
  generalize (w.alloc (.cells #[.string ⟨#[]⟩, .slice none 0 0] 24)) = W0 at *
  obtain ⟨g2, hg2⟩ : ∃ g2, w.heap.size = g2 := ⟨_, rfl⟩
  rw [hg2] at q2 z1 hcl ⊢
  have n2 : g2 ≠ b := by omega
  have HG2 : Hid (w.heap.size = g2) := hg2
  refine yk.mono ?_
  rintro e w1 ⟨rfl, c1, k1⟩
  have K1 : Keep1 b w w1 := (kA.any (R := fun i => i = b)).trans k1
  have q2a := q2.keep k1 n2
  have hz1 : g2 + 1 ≤ w1.heap.size := by have := k1.size; omega
  clear yk kA k1 q2 z1 hcl hg2
  have kB : Keep0 w1 (w1.alloc (.cells #[.string KT, .slice none 0 0] 24)) := (Keep.refl _ w1).alloc _
  have c2 := c1.keep0 kB
  have q2b := q2a.keep0 kB
  have q3b := DAt.new w1 24 (.string KT) (.slice none 0 0)
  have K2 := K1.step0 kB
  have z2 : (w1.alloc (.cells #[.string KT, .slice none 0 0] 24)).heap.size = w1.heap.size + 1 := by rw [World.size_alloc]
  have hb1 := c1.lt
  clear kB c1 q2a K1
  go_wp2_with fail
  generalize (w1.alloc (.cells #[.string KT, .slice none 0 0] 24)) = W1 at *
  obtain ⟨g3, hg3⟩ : ∃ g3, w1.heap.size = g3 := ⟨_, rfl⟩
  rw [hg3] at q3b z2 hz1 hb1 ⊢
  have n3 : g3 ≠ b := by omega
  have n23 : g2 ≠ g3 := by omega
  have HG3 : Hid (g2 + 1 ≤ g3) := hz1
  clear hg3 hz1 hb1
  refine (yc _ c2).mono ?_
  rintro e w3 ⟨rfl, c3, k3⟩
  have q2c := q2b.keep k3 n2
  have q3c := q3b.keep k3 n3
  have K3 := K2.trans k3
  have hz3 : g3 + 1 ≤ w3.heap.size := by have := k3.size; omega
  clear yc k3 q2b q3b K2 c2 z2
  by_cases hCE : CE = 0
  case neg =>
    obtain ⟨hN0, hv⟩ := HBad.out hCE
    have HV : Hid ((rOl s a).2 = (CA, CE) ∧ CE ≠ 0) := ⟨by rw [hv], hCE⟩
    subst hN0
    clear HBad HOk0 hv hCE
    go_wp2_with fail
    refine wp_loop_rounds 1 ?_
    rw [rounds_succ]
    obtain ⟨u0, u1, f0, f1⟩ := q2c.cells
    obtain ⟨t0, t1, h0, h1⟩ := q3c.cells
    go_wp2
    refine bodyPost_ret (retOl rfl _ _ _ rfl (q2c.put (.string KT) (.slice none 0 0))) rfl ?_
    exact HM.out _ _ _ _ KT [] none 0 HV.out.1 (fun e => absurd e HV.out.2) rfl (c3.keep (put2_keep _ _ _ _) (fun e => n2 e.symm)) (NewO.nil _ _) ⟨Nat.le_refl _, Nat.zero_le _⟩ (K3.step1 (put2_keep _ _ _ _) (by have := HG2.out; omega))
  subst hCE
  obtain ⟨hn0, hn16, hv⟩ := HOk0.out rfl
  obtain ⟨R, hR⟩ : ∃ z, liftM [] (rOss N [] s CA) = z := ⟨_, rfl⟩
  rw [hR] at hv
  have HOb2 : Hid ((rOl s a).2 = R.2) := by
    show _ = _
    rw [hv]
    split <;> rfl
  have HOb1 : Hid (R.2.2 = 0 → (rOl s a).1 = ⟨KT, R.1⟩) := fun e => by rw [hv, if_pos e]
  have HN16 : Hid (N ≤ 16) := hn16
  have HL0 : Hid (LoopL s N 0 [] CA 0 R) := .inl ⟨rfl, rfl, by rw [Nat.sub_zero]; exact hR.symm, (fun p hp => by cases hp)⟩
  have hN' : (N : Int) ≤ 9223372036854775807 := by omega
  have HC3 : Hid (Cur w3 b s CA 0) := c3
  have HQ2a : Hid (DAt w3 g2 (.string ⟨#[]⟩) (.slice none 0 0)) := q2c
  have HQ3a : Hid (DAt w3 g3 (.string KT) (.slice none 0 0)) := q3c
  have HK3 : Hid (Keep1 b w w3) := K3
  have HZ3 : Hid (g3 + 1 ≤ w3.heap.size) := hz3
  clear HBad HOk0 hv hR hn0 hn16 c3 q2c q3c K3 hz3
  go_wp2_with fail
  go_loopw [10] (fun i wr => ∃ (k : Nat) (O : List Po) (A : Int) (v : Value), i = .int .i64 (k : Int) ∧ k ≤ N ∧ Hid (Cur wr b s A 0) ∧ Hid (DAt wr g2 (.string ⟨#[]⟩) (.slice none 0 0)) ∧ Hid (DAt wr g3 (.string KT) v) ∧ Hid (OwnO (g3 + 1) wr v O) ∧ Hid (Keep1 b w wr) ∧ Hid (g3 + 1 ≤ wr.heap.size) ∧ Hid (LoopL s N k O A 0 R) ∧ Hid (∀ p ∈ O, Oks p.x)) (fun i _ => N - (intOf i).toNat)
  case atStart => exact ⟨0, [], CA, _, rfl, Nat.zero_le _, HC3, HQ2a, HQ3a, OwnO.nil _ _, HK3, HZ3, HL0, (fun _ h => by cases h)⟩
  case round =>
    obtain ⟨k, O, A, v, rfl, hk, HCu, HQ2, HQ3, HO, HKw, HZw, HRel, HOk⟩ := hrel
    clear HC3 HQ2a HQ3a HK3 HZ3 HL0
    obtain ⟨ao, cap, ev, hNL, hcap, hcap2⟩ := HO.out.newO
    subst ev
    obtain ⟨hl, hR2, hfit⟩ : O.length = k ∧ R = liftM (O.map Po.x) (rOss (N - k) (O.map Po.x) s A) ∧ ∀ p ∈ O, FitsOs p.x := by
      rcases HRel.out with ⟨_, h⟩ | ⟨h, _⟩
      · exact h
      · exact absurd rfl h
    by_cases hlt : k < N
    case neg =>
      have ek : k = N := by omega
      rw [ek, Nat.sub_self] at hR2
      have hz : liftM (O.map Po.x) (rOss 0 (O.map Po.x) s A) = (O.map Po.x, A, 0) := liftM_zero _ _
      rw [hz] at hR2
      have HV : Hid ((rOl s a).2 = (A, 0)) := by show _ = _; rw [HOb2.out, hR2]
      have HV1 : Hid ((rOl s a).1 = ⟨KT, O.map Po.x⟩) := by show _ = _; rw [HOb1.out (by rw [hR2]), hR2]
      have HNL : Hid (NewO (g3 + 1) wr ao O) := hNL
      have i1 : ¬ (k : Int) < N := by omega
      obtain ⟨u0, u1, f0, f1⟩ := HQ2.out.cells
      obtain ⟨t0, t1, h0, h1⟩ := HQ3.out.cells
      have HCP : Hid (O.length ≤ cap ∧ cap ≤ maxLen) := ⟨hcap, hcap2⟩
      clear hcap hcap2 hl hR2 hfit hNL ek hz
      go_wp2
      refine bodyPost_ret (retOl rfl _ _ _ rfl (HQ2.out.put (.string KT) (.slice ao O.length cap))) rfl ?_
      refine HM.out _ _ _ _ KT O ao cap HV.out (fun _ => HV1.out) rfl (HCu.out.keep (put2_keep _ _ _ _) (fun e => n2 e.symm)) ?_ HCP.out (HKw.out.step1 (put2_keep _ _ _ _) (by have := HG2.out; omega))
      exact (HNL.out.keep (put2_keep _ _ _ _) (fun g hg e => by have := HG3.out; omega)).lower (by have := HG2.out; have := HG3.out; omega)
    have hcur := HCu.out
    obtain ⟨⟨V, A1, E1⟩, hV⟩ : ∃ z, rVec s A = z := ⟨_, rfl⟩
    obtain ⟨A3, hA3⟩ : ∃ z, bAt s (cAt s A1 E1 1) (gErr s A1 E1) 32768 = z := ⟨_, rfl⟩
    obtain ⟨E3, hE3⟩ : ∃ z, bErr s (cAt s A1 E1 1) (gErr s A1 E1) 32768 = z := ⟨_, rfl⟩
    obtain ⟨hch1, hch2⟩ := chain17 hV hA3 hE3
    obtain ⟨X, hX⟩ : ∃ X : Os, ⟨V, gSet s A1 E1, bTxt s (cAt s A1 E1 1) (gErr s A1 E1) 32768⟩ = X := ⟨_, rfl⟩
    obtain ⟨F, hF⟩ : ∃ F, cFail E3 (osTest (O.map Po.x) X) = F := ⟨_, rfl⟩
    have yt := takeSib17 (F := F) hcur ao cap O (by have := HN16.out; unfold maxLen; omega) HOk.out (fun W K => by
      obtain ⟨ao', cap', e3, hN', _, _⟩ := (HO.out.keep K (fun g hg e => by have := HB.out; have := HG2.out; have := HG3.out; omega)).newO
      cases e3
      exact hN'.at_) hV rfl rfl rfl rfl hA3 hE3 (by rw [hX]; exact hF)
    rw [hX] at yt hch2
    have okx : Oks X := by
      rw [← hX]
      refine ⟨?_, txt_le17⟩
      have := vec_ok17 hcur.lo hcur.hi
      rw [hV] at this
      exact this
    have hfx : E3 = 0 → FitsOs X := fun e => by
      have h := (os_codec.read hcur.lo hcur.hi (by rw [hch2 e])).1
      rw [hch2 e] at h
      exact okOs_fit h
    have hnext : ∀ vo vc, LoopL s N (k + 1) (O ++ [⟨X, vo, vc⟩]) A3 F R := fun vo vc => LoopL.next (p := ⟨X, vo, vc⟩) hlt hl hR2 hfit hch1 hch2 hfx (by rw [← hF]; exact inL17)
    have HN1 : Hid (F ≠ 0 → (rOl s a).2 = (A3, F)) := fun hne => by
      rcases hnext none 0 with ⟨h, _⟩ | ⟨_, h⟩
      · exact absurd h hne
      · rw [HOb2.out, h]
    have HN2 : Hid (∀ vo vc, LoopL s N (k + 1) (O ++ [⟨X, vo, vc⟩]) A3 F R) := hnext
    have HX : Hid (Oks X) := okx
    have ye := fun W (h : Cur W b s A3 F) => err_any h
    have i1 : (k : Int) < N := by omega
    have hl16 : O.length ≤ 16 := by have := HN16.out; omega
    have HL16 : Hid (O.length ≤ 16) := hl16
    obtain ⟨t0, t1, h0, h1⟩ := HQ3.out.cells
    have HCP : Hid (O.length ≤ cap ∧ cap ≤ maxLen) := ⟨hcap, hcap2⟩
    clear hcur hV hR2 hfit HRel hl hnext hl16 hcap hcap2 hA3 hE3 hch1 hch2 hX hF hfx okx hNL
    go_wp2_with fail
    refine yt.mono ?_
    rintro e w1 ⟨vo, vc, rfl, c1, hI, hF1, k1⟩
    have K1 := HKw.out.trans k1
    have kA : Keep0 w1 (w1.alloc (.cells #[.slice vo X.c.length vc, .bool X.d, .string X.v] 56)) := (Keep.refl _ w1).alloc _
    obtain ⟨x0, x1, x2⟩ := poAt_new w1 56 ⟨X, vo, vc⟩
    have c2 := c1.keep0 kA
    have q2b := (HQ2.out.keep k1 n2).keep0 kA
    have q3b := (HQ3.out.keep k1 n3).keep0 kA
    have oB := (HO.out.keep k1 (fun g hg e => by have := HB.out; have := HG2.out; have := HG3.out; omega)).keep0 kA
    have iB := hI.keep0 kA
    have K2 := K1.step0 kA
    have z2 : g3 + 1 ≤ (w1.alloc (.cells #[.slice vo X.c.length vc, .bool X.d, .string X.v] 56)).heap.size := by have := kA.size; have := k1.size; have := HZw.out; omega
    have HFv : Hid (∀ g off m, vo = some ⟨g, off, m⟩ → g3 + 1 ≤ g ∧ (X.c.length = 0 ∨ Value.ownBlock (.slice ao O.length cap) ≠ some g)) := fun g off m e => ⟨by have := hF1 g off m e; have := HZw.out; omega, .inr (fun e2 => by have := (HO.out.lt g e2).2; have := hF1 g off m e; omega)⟩
    have hg6 : ¬ w1.heap.size = b := by have := c1.lt; omega
    have ye := ye _ c2
    clear yt k1 hF1 hI K1 kA c1 HQ2 HQ3 HO HKw HZw HCu t0 t1 h0 h1
    obtain ⟨u0, u1, f0, f1⟩ := q2b.cells
    obtain ⟨t0, t1, h0, h1⟩ := q3b.cells
    go_wp2_with fail
    generalize (w1.alloc (.cells #[.slice vo X.c.length vc, .bool X.d, .string X.v] 56)) = wc at *
    generalize w1.heap.size = g6 at *
    refine ye.mono ?_
    rintro e w4 ⟨rfl, rfl⟩
    clear ye
    by_cases hF0 : F = 0
    case neg =>
      have e1 : (F != 0) = true := by simpa using hF0
      have HV : Hid ((rOl s a).2 = (A3, F) ∧ F ≠ 0) := ⟨HN1.out hF0, hF0⟩
      obtain ⟨ao', cap', e3, hNL, _, _⟩ := oB.newO
      cases e3
      have HNL : Hid (NewO (g3 + 1) wc ao O) := hNL
      clear HN1 HN2 HFv HX hF0 hNL oB
      go_wp2
      refine bodyPost_ret (retOl rfl _ _ _ rfl (q2b.put (.string KT) (.slice ao O.length cap))) rfl ?_
      refine HM.out _ _ _ _ KT O ao cap HV.out.1 (fun e => absurd e HV.out.2) rfl (c2.keep (put2_keep _ _ _ _) (fun e => n2 e.symm)) ?_ HCP.out (K2.step1 (put2_keep _ _ _ _) (by have := HG2.out; omega))
      exact (HNL.out.keep (put2_keep _ _ _ _) (fun g hg e => by have := HG3.out; omega)).lower (by have := HG2.out; have := HG3.out; omega)
    subst hF0
    have HD : Hid (LoopL s N (k + 1) (O ++ [⟨X, vo, vc⟩]) A3 0 R) := HN2.out vo vc
    have HOk' : Hid (∀ p ∈ O ++ [(⟨X, vo, vc⟩ : Po)], Oks p.x) := by
      intro p hp
      rcases List.mem_append.1 hp with hp | hp
      · exact HOk.out p hp
      · rw [List.mem_singleton.1 hp]; exact HX.out
    have kS : Keep0 wc (wc.alloc (.cells #[.slice vo X.c.length vc, .bool X.d, .string X.v] 56)) := (Keep.refl _ wc).alloc _
    have hsrc := po_new wc 56 ⟨X, vo, vc⟩
    have oVA := oB.keep0 kS
    have hrow := oVA.row
    have hB2 : g3 + 1 ≤ (wc.alloc (.cells #[.slice vo X.c.length vc, .bool X.d, .string X.v] 56)).heap.size := by have := kS.size; omega
    have hlen : O.length + [(⟨X, vo, vc⟩ : Po)].length ≤ 1000000 := by show _ + 1 ≤ _; have := HL16.out; omega
    have HcV : Hid (Cur (wc.alloc (.cells #[.slice vo X.c.length vc, .bool X.d, .string X.v] 56)) b s A3 0) := c2.keep0 kS
    have HqV : Hid (DAt (wc.alloc (.cells #[.slice vo X.c.length vc, .bool X.d, .string X.v] 56)) g2 (.string ⟨#[]⟩) (.slice none 0 0)) := q2b.keep0 kS
    have HrV : Hid (DAt (wc.alloc (.cells #[.slice vo X.c.length vc, .bool X.d, .string X.v] 56)) g3 (.string KT) (.slice ao O.length cap)) := q3b.keep0 kS
    have HoV : Hid (OwnO (g3 + 1) (wc.alloc (.cells #[.slice vo X.c.length vc, .bool X.d, .string X.v] 56)) (.slice ao O.length cap) O) := oVA
    have HiV : Hid (EnsAt (wc.alloc (.cells #[.slice vo X.c.length vc, .bool X.d, .string X.v] 56)) vo X.c) := iB.keep0 kS
    have HKV : Hid (Keep1 b w (wc.alloc (.cells #[.slice vo X.c.length vc, .bool X.d, .string X.v] 56))) := K2.step0 kS
    have HzV : Hid (g3 + 1 ≤ (wc.alloc (.cells #[.slice vo X.c.length vc, .bool X.d, .string X.v] 56)).heap.size) := hB2
    clear c2 q2b q3b oB iB K2 z2 oVA kS HN1 HN2 HOk HX u0 u1 f0 f1
    go_wp2_with (at_builtin; refine wpList_append_row_at poT rfl _ _ rfl rfl rfl hrow hsrc hB2 hlen ?_)
    intro v' w4 g1 g4 g5
    have g1 : w4.ownsRow (g3 + 1) 56 3 v' (O ++ [(⟨X, vo, vc⟩ : Po)]).length (rowOf Po.cells (O ++ [(⟨X, vo, vc⟩ : Po)])) := by first | exact g1 | (rw [List.length_append]; exact g1)
    have o4 := HoV.out.more (p := ⟨X, vo, vc⟩) HiV.out HFv.out g1 g4 (by first | exact g5 | (rw [World.size_alloc]; exact g5))
    obtain ⟨ao5, an5, ac5, rfl⟩ := sliceE_of_own g1
    have k4 := keep_grown g4
    have hn4 : ∀ g, Value.ownBlock (.slice ao O.length cap) = some g → g3 + 1 ≤ g := fun g e => (HoV.out.lt g e).1
    have c4 := HcV.out.keep k4 (fun e => by have := hn4 _ e; have := HB.out; have := HG2.out; have := HG3.out; omega)
    have q4 := HqV.out.keep k4 (fun e => by have := hn4 _ e; have := HG3.out; omega)
    have r4 := HrV.out.keep k4 (fun e => by have := hn4 _ e; omega)
    have K4 := HKV.out.step k4 (fun i hi e => by have := hn4 _ e; have := HG2.out; have := HG3.out; omega)
    have z4 : g3 + 1 ≤ w4.heap.size := by have := g4.size; have := HzV.out; omega
    have k5 : Keep1 g3 w4 (w4.setCell ⟨g3, 1, none⟩ (.slice ao5 an5 ac5)) := set_keep1 _ _ _ _
    have HC5 : Hid (Cur (w4.setCell ⟨g3, 1, none⟩ (.slice ao5 an5 ac5)) b s A3 0) := c4.keep k5 (fun e => n3 e.symm)
    have HQ5 : Hid (DAt (w4.setCell ⟨g3, 1, none⟩ (.slice ao5 an5 ac5)) g2 (.string ⟨#[]⟩) (.slice none 0 0)) := q4.keep k5 n23
    have HR5 : Hid (DAt (w4.setCell ⟨g3, 1, none⟩ (.slice ao5 an5 ac5)) g3 (.string KT) (.slice ao5 an5 ac5)) := r4.set1 _
    have HO5 : Hid (OwnO (g3 + 1) (w4.setCell ⟨g3, 1, none⟩ (.slice ao5 an5 ac5)) (.slice ao5 an5 ac5) (O ++ [⟨X, vo, vc⟩])) := o4.keep k5 (fun g hg e => by omega)
    have HK5 : Hid (Keep1 b w (w4.setCell ⟨g3, 1, none⟩ (.slice ao5 an5 ac5))) := K4.step1 k5 (by have := HG2.out; have := HG3.out; omega)
    have HZ5 : Hid (g3 + 1 ≤ (w4.setCell ⟨g3, 1, none⟩ (.slice ao5 an5 ac5)).heap.size) := by show _ ≤ _; have := k5.size; omega
    obtain ⟨p0, p1, ph0, ph1⟩ := r4.cells
    clear g1 g4 g5 o4 k4 hn4 c4 q4 r4 K4 z4 k5 hsrc hrow hB2 hlen x0 x1 x2 HcV HqV HrV HoV HiV HKV HzV HFv t0 t1 h0 h1
    go_wp2
    go_roundw
    case rel => exact ⟨k + 1, O ++ [⟨X, vo, vc⟩], A3, _, by go_num, by omega, HC5, HQ5, HR5, HO5, HK5, HZ5, HD, HOk'⟩
    case measure => simp [intOf]; omega
set_option maxRecDepth 100000 in
set_option maxHeartbeats 8000000 in
theorem decode17_any (w : World) (s : ByteArray) (hs : s.size ≤ maxLen) :
    Calls Tryz.prog 88 #[.string s] w (ROlE (decL s) w) := by
  have HE : Hid (∀ (W : World) (e : Ending) (E : Int), decL s = (zOl, E) → e = .returned (.tuple #[.agg #[.string ⟨#[]⟩, .slice none 0 0], .int .i64 E]) → Keep0 w W → ROlE (decL s) w e W) := fun _ _ _ h1 h2 h3 => ROlE.bare h1 h2 h3
  have HM : Hid (∀ (W : World) (e : Ending) (K : ByteArray) (L : List Po) (ao : Option Addr) (cap : Nat), decL s = (⟨K, L.map Po.x⟩, 0) → e = .returned (.tuple #[.agg #[.string K, .slice ao L.length cap], .int .i64 0]) → NewO w.heap.size W ao L → (L.length ≤ cap ∧ cap ≤ maxLen) → Keep0 w W → ROlE (decL s) w e W) := fun _ _ _ _ _ _ h1 h2 h3 h3' h4 => ROlE.mk h1 h2 h3'.1 h3'.2 h3.at_ h4
  have kA : Keep0 w (w.alloc (.cells #[.string ⟨#[]⟩, .slice none 0 0] 24)) := (Keep.refl _ w).alloc _
  have q2 : DAt (w.alloc (.cells #[.string ⟨#[]⟩, .slice none 0 0] 24)) w.heap.size (.string ⟨#[]⟩) (.slice none 0 0) := DAt.new w 24 (.string ⟨#[]⟩) (.slice none 0 0)
  have z1 : (w.alloc (.cells #[.string ⟨#[]⟩, .slice none 0 0] 24)).heap.size = w.heap.size + 1 := by rw [World.size_alloc]
  have yn := new_any (w.alloc (.cells #[.string ⟨#[]⟩, .slice none 0 0] 24)) s hs
  rw [z1] at yn
  have yt := fun W (h : Cur W (w.heap.size + 1) s 0 0) => take17 h
  have HD : Hid (if cEnd s (rOl s 0).2.1 (rOl s 0).2.2 = 0 then decL s = ((rOl s 0).1, 0) else decL s = (zOl, cEnd s (rOl s 0).2.1 (rOl s 0).2.2)) := by
    show if _ then _ else _
    unfold decL dec
    split <;> rfl
  have ye := fun (W : World) (h : Cur W (w.heap.size + 1) s (rOl s 0).2.1 (rOl s 0).2.2) => end_any h
  have HZ : Hid (cEnd s (rOl s 0).2.1 (rOl s 0).2.2 = 0 → (rOl s 0).2.2 = 0) := cEnd_zero17
  generalize hE : cEnd s (rOl s 0).2.1 (rOl s 0).2.2 = E at *
  obtain ⟨⟨OO, A, X⟩, hRV⟩ : ∃ RV, rOl s 0 = RV := ⟨_, rfl⟩
  rw [hRV] at yt ye HD HZ
  clear hE hRV
  have ye : ∀ (W : World), Cur W (w.heap.size + 1) s A X → Calls Tryz.prog 47 #[ptr (w.heap.size + 1)] W fun e w' => e = .returned (.int .i64 E) ∧ Cur w' (w.heap.size + 1) s A E ∧ Keep1 (w.heap.size + 1) W w' := ye
  have HD : Hid (if E = 0 then decL s = (OO, 0) else decL s = (zOl, E)) := HD
  have HZ : Hid (E = 0 → X = 0) := HZ
  go_enter Tryz.func88, Tryz.ntmps88
  go_wp2_with fail
  generalize (w.alloc (.cells #[.string ⟨#[]⟩, .slice none 0 0] 24)) = W0 at *
  obtain ⟨g2, hg2⟩ : ∃ g2, w.heap.size = g2 := ⟨_, rfl⟩
  rw [hg2] at q2 z1 yn yt ye ⊢
  obtain ⟨gc, hgc⟩ : ∃ gc, g2 + 1 = gc := ⟨_, rfl⟩
  rw [hgc] at yn yt ye z1
  have n2 : g2 ≠ gc := by omega
  have HG : Hid (w.heap.size = g2 ∧ g2 + 1 = gc) := ⟨hg2, hgc⟩
  refine yn.mono ?_
  rintro e w0 ⟨rfl, c0, kn⟩
  have K0 := kA.trans kn
  have qn := q2.keep0 kn
  have sz0 := c0.lt
  have yt := yt _ c0
  clear yn kA kn q2 hs z1
  go_wp2_with fail
  refine yt.mono ?_
  rintro e w1 ⟨K, ao, cap, L, rfl, c1, hL, hN, hcp, k1⟩
  replace c1 : Cur w1 gc s A X := c1
  have HLo : Hid (X = 0 → OO = ⟨K, L.map Po.x⟩) := hL
  have HCP : Hid (L.length ≤ cap ∧ cap ≤ maxLen) := hcp
  have K1 : Keep0 w w1 := K0.step k1 (fun i hi hh => by have := HG.out; omega)
  have q2a := qn.keep k1 n2
  have HNL : Hid (NewO (gc + 1) w1 ao L) := hN.lower (by omega)
  clear yt k1 K0 qn hN hg2 hgc c0 sz0 hL hcp
  have kB : Keep0 w1 (w1.alloc (.cells #[.string K, .slice ao L.length cap] 24)) := (Keep.refl _ w1).alloc _
  have q3 := DAt.new w1 24 (.string K) (.slice ao L.length cap)
  have c2 := c1.keep0 kB
  have q2b := q2a.keep0 kB
  have HNL2 : Hid (NewO (gc + 1) (w1.alloc (.cells #[.string K, .slice ao L.length cap] 24)) ao L) := HNL.out.keep kB (fun _ _ f => f)
  have K2 := K1.trans kB
  have hlt := c1.lt
  have ye := ye _ c2
  clear kB c1 q2a HNL K1
  go_wp2_with fail
  generalize (w1.alloc (.cells #[.string K, .slice ao L.length cap] 24)) = W2 at *
  obtain ⟨g3, hg3⟩ : ∃ g3, w1.heap.size = g3 := ⟨_, rfl⟩
  rw [hg3] at q3 hlt ⊢
  have n3 : g3 ≠ gc := by omega
  refine ye.mono ?_
  rintro e w3 ⟨rfl, c3, k3⟩
  have K3 : Keep0 w w3 := K2.step k3 (fun i hi hh => by have := HG.out; omega)
  have q2c := q2b.keep k3 n2
  have q3c := q3.keep k3 n3
  have HNL3 : Hid (NewO (gc + 1) w3 ao L) := HNL2.out.keep k3 (fun g hg hh => by omega)
  clear ye k3 K2 q2b q3 HNL2 c2 c3 hg3 hlt
  obtain ⟨u0, u1, f0, f1⟩ := q2c.cells
  obtain ⟨t0, t1, h0, h1⟩ := q3c.cells
  by_cases hz : E = 0
  · have hd := HD.out
    rw [if_pos hz, HLo.out (HZ.out hz)] at hd
    have HV : Hid (decL s = (⟨K, L.map Po.x⟩, 0)) := hd
    subst hz
    clear hd HD HE HLo HZ
    go_wp2
    refine bodyPost_ret (retOl2 rfl _ _ _ rfl (q2c.put (.string K) (.slice ao L.length cap))) rfl ?_
    exact HM.out _ _ K L ao cap HV.out rfl ((HNL3.out.keep (put2_keep _ _ _ _) (fun g hg hh => by have := HG.out; omega)).lower (by have := HG.out; omega)) HCP.out (K3.step (put2_keep _ _ _ _) (fun i hi hh => by have := HG.out; omega))
  · have hd := HD.out
    rw [if_neg hz] at hd
    have HV : Hid (decL s = (zOl, E)) := hd
    have e0 : (E != 0) = true := by simpa using hz
    clear hd HD HM hz HLo HZ
    go_wp2
    refine bodyPost_ret (retOl2 rfl _ _ _ rfl (q2c.put (.string ⟨#[]⟩) (.slice none 0 0))) rfl ?_
    exact HE.out _ _ _ HV.out rfl (K3.step (put2_keep _ _ _ _) (fun i hi hh => by have := HG.out; omega))
theorem decode17 (w : World) (s : ByteArray) (hs : s.size ≤ 1000000) :
    Calls Tryz.prog 88 #[.string s] w (ROlE (decL s) w) := decode17_any w s (by unfold maxLen; omega)
end Go.Proofs.YtoefibkhlhmlfaaGreat
