/-
  What this seat's claims lean on of the texts ObjSort, RefVcode2, Open12, Law10.
  Conditions: as each theorem states.
-/
import Derived.WalkKit
import Derived.ProofKit
import Derived.Below
import Derived.Deep.Draws
import Derived.Deep.RegionHeld
import Derived.Test.YteonkfedgopdiaaGreatChecked
import Derived.OpenShut
import Derived.ShutString
import Derived.WalkSpells
import Derived.WalkLawsBesides
import Derived.Deep.QuietTactic
import Derived.BigQuiet
import Derived.Laws.Bits64b
import Derived.PlainAid
import Derived.Lib.AppendStr
import Derived.Deep.AppendLies
import Derived.Laws.IdiomStrings
import Derived.Laws.BytesArg
import Derived.Deep.RegionWith
import Derived.Test.YteonkfedgopdiaaGreatY19
import Derived.Laws.AppendOwn
import Derived.Deep.DeepAppendWide
import Derived.Deep.Upon
import Derived.Test.YteonkfedgopdiaaGreatY11
import Derived.Deep.Slices
import Derived.Test.YteonkfedgopdiaaGreatY14
namespace Go.Proofs.YteonkfedgopdiaaGreat
open Go.RowKit
def kb (x : Sb) : ByteArray := eClk x.k
def Rise (l : List Sb) : Prop := l.Pairwise (fun x y => bl (kb x) (kb y) = true)
def ins (x : Sb) : List Sb → List Sb
  | [] => [x]
  | y :: l => if bl (kb y) (kb x) = true then y :: ins x l else x :: y :: l
def isort : List Sb → List Sb
  | [] => []
  | x :: l => ins x (isort l)
theorem ins_perm (x : Sb) : ∀ l, (ins x l).Perm (x :: l)
  | [] => List.Perm.refl _
  | y :: l => by
    unfold ins
    split
    · exact ((ins_perm x l).cons y).trans (List.Perm.swap x y l)
    · exact List.Perm.refl _
theorem isort_perm : ∀ l, (isort l).Perm l
  | [] => List.Perm.refl _
  | x :: l => (ins_perm x (isort l)).trans ((isort_perm l).cons x)
def Weak (l : List Sb) : Prop := l.Pairwise (fun x y => bl (kb y) (kb x) = false)
theorem bl_trans_no {a b c : ByteArray} (h1 : bl b a = false) (h2 : bl c b = false) : bl c a = false := by
  cases h : bl c a with
  | false => rfl
  | true =>
    rcases bl_tri h1 with h3 | h3
    · rw [bl_trans h h3] at h2; cases h2
    · subst h3; rw [h] at h2; cases h2
theorem ins_weak {x : Sb} : ∀ {l : List Sb}, Weak l → Weak (ins x l)
  | [], _ => List.pairwise_singleton _ _
  | y :: l, h => by
    obtain ⟨h1, h2⟩ := List.pairwise_cons.1 h
    unfold ins
    split
    · rename_i hb
      refine List.pairwise_cons.2 ⟨fun z hz => ?_, ins_weak h2⟩
      rcases List.mem_cons.1 ((ins_perm x l).mem_iff.1 hz) with rfl | hz
      · exact bl_asym hb
      · exact h1 z hz
    · rename_i hb
      have hb : bl (kb y) (kb x) = false := by simpa using hb
      refine List.pairwise_cons.2 ⟨fun z hz => ?_, h⟩
      rcases List.mem_cons.1 hz with rfl | hz
      · exact hb
      · exact bl_trans_no hb (h1 z hz)
theorem isort_weak : ∀ l, Weak (isort l)
  | [] => List.Pairwise.nil
  | _ :: l => ins_weak (isort_weak l)
def rising : List Sb → Bool
  | x :: y :: l => bl (kb x) (kb y) && rising (y :: l)
  | _ => true
theorem rising_iff : ∀ {l : List Sb}, rising l = true ↔ Rise l
  | [] => ⟨fun _ => List.Pairwise.nil, fun _ => rfl⟩
  | [x] => ⟨fun _ => List.pairwise_singleton _ _, fun _ => rfl⟩
  | x :: y :: l => by
    rw [rising, Bool.and_eq_true, rising_iff (l := y :: l)]
    unfold Rise
    rw [List.pairwise_cons (a := x)]
    constructor
    · rintro ⟨h1, h2⟩
      refine ⟨fun z hz => ?_, h2⟩
      rcases List.mem_cons.1 hz with rfl | hz
      · exact h1
      · exact bl_trans h1 ((List.pairwise_cons.1 h2).1 z hz)
    · rintro ⟨h1, h2⟩
      exact ⟨h1 y List.mem_cons_self, h2⟩
theorem rise_ext : ∀ {a b : List Sb}, Rise a → Rise b → (∀ x, x ∈ a ↔ x ∈ b) → a = b
  | [], [], _, _, _ => rfl
  | [], y :: m, _, _, h => absurd ((h y).2 List.mem_cons_self) List.not_mem_nil
  | x :: l, [], _, _, h => absurd ((h x).1 List.mem_cons_self) List.not_mem_nil
  | x :: l, y :: m, ha, hb, h => by
    obtain ⟨a1, a2⟩ := List.pairwise_cons.1 ha
    obtain ⟨b1, b2⟩ := List.pairwise_cons.1 hb
    have e : x = y := by
      rcases List.mem_cons.1 ((h x).1 List.mem_cons_self) with e | hx
      · exact e
      · rcases List.mem_cons.1 ((h y).2 List.mem_cons_self) with e | hy
        · exact e.symm
        · have h1 := b1 x hx
          have h2 := a1 y hy
          rw [bl_asym h1] at h2
          cases h2
    subst e
    congr 1
    refine rise_ext a2 b2 (fun z => ?_)
    constructor
    · intro hz
      rcases List.mem_cons.1 ((h z).1 (List.mem_cons_of_mem _ hz)) with e | hz'
      · subst e
        have := a1 z hz
        rw [bl_irr] at this
        cases this
      · exact hz'
    · intro hz
      rcases List.mem_cons.1 ((h z).2 (List.mem_cons_of_mem _ hz)) with e | hz'
      · subst e
        have := b1 z hz
        rw [bl_irr] at this
        cases this
      · exact hz'
def Apart (l : List Sb) : Prop := l.Pairwise (fun x y => kb x ≠ kb y)
theorem apart_perm {a b : List Sb} (h : a.Perm b) : Apart a ↔ Apart b := h.pairwise_iff (fun h => Ne.symm h)
theorem rise_apart {l : List Sb} (h : Rise l) : Apart l := h.imp (fun h => bl_ne h)
theorem weak_rise {l : List Sb} (h : Weak l) (h1 : Apart l) : Rise l := by
  refine (h.and h1).imp (fun {x y} hxy => ?_)
  rcases bl_tri hxy.1 with h2 | h2
  · exact h2
  · exact absurd h2.symm hxy.2
theorem sort_yes {l R : List Sb} (hp : R.Perm l) (hr : Rise R) : rising (isort l) = true ∧ R = isort l := by
  have h1 : Apart (isort l) := (apart_perm (isort_perm l)).2 ((apart_perm hp).1 (rise_apart hr))
  have h2 : Rise (isort l) := weak_rise (isort_weak l) h1
  exact ⟨rising_iff.2 h2, rise_ext hr h2 (fun x => hp.mem_iff.trans (isort_perm l).mem_iff.symm)⟩
theorem sort_no {l : List Sb} (h : ¬ Apart l) : rising (isort l) = false := by
  cases hr : rising (isort l) with
  | false => rfl
  | true => exact absurd ((apart_perm (isort_perm l)).1 (rise_apart (rising_iff.1 hr))) h
def sBad : List Sb → Int
  | [] => 0
  | x :: l => if sCheck x = 0 then sBad l else sCheck x
theorem sBad_zero : ∀ {l : List Sb}, sBad l = 0 ↔ ∀ x ∈ l, sCheck x = 0
  | [] => ⟨(fun _ _ h => by cases h), fun _ => rfl⟩
  | x :: l => by
    rw [sBad]
    constructor
    · intro h y hy
      by_cases h0 : sCheck x = 0
      · rw [if_pos h0] at h
        rcases List.mem_cons.1 hy with rfl | hy
        · exact h0
        · exact sBad_zero.1 h y hy
      · rw [if_neg h0] at h
        exact absurd h h0
    · intro h
      rw [if_pos (h x List.mem_cons_self)]
      exact sBad_zero.2 (fun y hy => h y (List.mem_cons_of_mem _ hy))
theorem sBad_drop {l : List Sb} {k : Nat} (h : k < l.length) : sBad (l.drop k) = if sCheck l[k] = 0 then sBad (l.drop (k + 1)) else sCheck l[k] := by
  rw [List.drop_eq_getElem_cons h, sBad]
def oSort (key : ByteArray) (l : List Sb) : Ob × Int := if outS key l.length = 0 then (if sBad l = 0 then (if rising (isort l) = true then (⟨key, isort l⟩, 0) else (zOb, 6)) else (zOb, sBad l)) else (zOb, outS key l.length)
theorem oSort_out {key : ByteArray} {l : List Sb} (h : outS key l.length ≠ 0) : oSort key l = (zOb, outS key l.length) := if_neg h
theorem oSort_bad {key : ByteArray} {l : List Sb} (h : outS key l.length = 0) (h1 : sBad l ≠ 0) : oSort key l = (zOb, sBad l) := by unfold oSort; rw [if_pos h, if_neg h1]
theorem oSort_same {key : ByteArray} {l : List Sb} (h : outS key l.length = 0) (h1 : sBad l = 0) (h2 : ¬ Apart l) : oSort key l = (zOb, 6) := by unfold oSort; rw [if_pos h, if_pos h1, sort_no h2, if_neg (by decide)]
theorem oSort_yes {key : ByteArray} {l R : List Sb} (h : outS key l.length = 0) (h1 : sBad l = 0) (hp : R.Perm l) (hr : Rise R) : oSort key l = (⟨key, R⟩, 0) := by
  obtain ⟨h2, h3⟩ := sort_yes hp hr
  unfold oSort
  rw [if_pos h, if_pos h1, if_pos h2, h3]
theorem oSort_good {key : ByteArray} {l : List Sb} (h : (oSort key l).2 = 0) : oCheck (oSort key l).1 = 0 ∧ (oSort key l).1.l.Perm l ∧ (oSort key l).1.key = key := by
  unfold oSort at h ⊢
  by_cases h0 : outS key l.length = 0
  · rw [if_pos h0] at h ⊢
    by_cases h1 : sBad l = 0
    · rw [if_pos h1] at h ⊢
      by_cases h2 : rising (isort l) = true
      · rw [if_pos h2]
        refine ⟨oCheck_zero.2 ⟨?_, fun x hx => sBad_zero.1 h1 x ((isort_perm l).mem_iff.1 hx), rising_iff.1 h2⟩, isort_perm l, rfl⟩
        show outS key (isort l).length = 0
        rw [(isort_perm l).length_eq]
        exact h0
      · rw [if_neg h2] at h; exact absurd h (by decide)
    · rw [if_neg h1] at h; exact absurd h h1
  · rw [if_neg h0] at h; exact absurd h h0
theorem oSort_perm {key : ByteArray} {l m : List Sb} (h : (oSort key l).2 = 0) (hp : m.Perm l) : oSort key m = oSort key l := by
  obtain ⟨h1, h2, h3⟩ := oSort_good h
  obtain ⟨h4, h5⟩ := oCheck_zero.1 h1
  rw [h3, h2.length_eq] at h4
  have hb : sBad l = 0 := sBad_zero.2 (fun x hx => h5.1 x (h2.mem_iff.2 hx))
  have hb' : sBad m = 0 := sBad_zero.2 (fun x hx => h5.1 x (h2.mem_iff.2 (hp.mem_iff.1 hx)))
  rw [oSort_yes h4 hb h2 h5.2, oSort_yes (by rw [hp.length_eq]; exact h4) hb' (h2.trans hp.symm) h5.2]
structure Sel (l out left : List Sb) : Prop where
  perm : (out ++ left).Perm l
  rise : Rise out
  low : ∀ x ∈ out, ∀ y ∈ left, bl (kb y) (kb x) = false
theorem Sel.start (l : List Sb) : Sel l [] l := ⟨List.Perm.refl _, List.Pairwise.nil, (fun _ h => by cases h)⟩
theorem Sel.done {l out : List Sb} (h : Sel l out []) : out.Perm l ∧ Rise out := ⟨by have := h.perm; rwa [List.append_nil] at this, h.rise⟩
theorem left_perm {left : List Sb} {k : Nat} (h : k < left.length) : (left[k] :: (left.take k ++ left.drop (k + 1))).Perm left := by
  have e : left = left.take k ++ left[k] :: left.drop (k + 1) := by
    rw [← List.drop_eq_getElem_cons h, List.take_append_drop]
  exact (List.perm_middle.symm).trans (by rw [← e])
theorem Sel.same {l out left : List Sb} (h : Sel l out left) {x y : Sb} (hx : x ∈ out) (hy : y ∈ left) (e : kb x = kb y) : ¬ Apart l := by
  intro ha
  have h1 := (apart_perm h.perm).2 ha
  exact (List.pairwise_append.1 h1).2.2 x hx y hy e
theorem Sel.step {l out left : List Sb} (h : Sel l out left) {k : Nat} (hk : k < left.length) (hm : ∀ y ∈ left, bl (kb y) (kb left[k]) = false) (hl : ∀ x, out.getLast? = some x → kb x ≠ kb left[k]) : Sel l (out ++ [left[k]]) (left.take k ++ left.drop (k + 1)) := by
  have hp := left_perm hk
  have hmem : ∀ y, y ∈ left.take k ++ left.drop (k + 1) → y ∈ left := fun y hy => hp.mem_iff.1 (List.mem_cons_of_mem _ hy)
  refine ⟨?_, ?_, ?_⟩
  · rw [List.append_assoc]
    exact (List.Perm.append_left out hp).trans h.perm
  · refine List.pairwise_append.2 ⟨h.rise, List.pairwise_singleton _ _, fun x hx y hy => ?_⟩
    rw [List.mem_singleton.1 hy]
    rcases bl_tri (h.low x hx left[k] (List.getElem_mem hk)) with h2 | h2
    · exact h2
    · exfalso
      obtain ⟨z, hz⟩ : ∃ z, out.getLast? = some z := by
        cases hg : out.getLast? with
        | none => rw [List.getLast?_eq_none_iff.1 hg] at hx; cases hx
        | some z => exact ⟨z, rfl⟩
      have hzm : z ∈ out := List.mem_of_getLast? hz
      have h3 := hl z hz
      have h4 := h.low z hzm left[k] (List.getElem_mem hk)
      obtain ⟨init, hi⟩ : ∃ init, out = init ++ [z] := List.getLast?_eq_some_iff.1 hz
      have hr := h.rise
      rw [hi] at hr hx
      rcases List.mem_append.1 hx with hx | hx
      · have := (List.pairwise_append.1 hr).2.2 x hx z List.mem_cons_self
        rw [h2, this] at h4
        cases h4
      · rw [List.mem_singleton.1 hx] at h2
        exact h3 h2.symm
  · intro x hx y hy
    rcases List.mem_append.1 hx with hx | hx
    · exact h.low x hx y (hmem y hy)
    · rw [List.mem_singleton.1 hx]
      exact hm y (hmem y hy)
end Go.Proofs.YteonkfedgopdiaaGreat
namespace Go.Proofs.YteonkfedgopdiaaGreat
open Go.RowKit
set_option maxRecDepth 100000 in
set_option maxHeartbeats 4000000 in
theorem rput11 {w : World} {b : Nat} {t : ByteArray} {M x : Int} (h : RPen w b t M x) (ht : t.size ≤ 1000000000) (ao : Option Addr) (cap : Nat) (l : List En) (hf : Fits l) (hc : EnsAt w ao l) (hn : 0 < l.length → ApartE (fun k => k = b) ao) :
    Calls Tryz.prog 127 #[pptr b, .slice ao l.length cap] w fun e w' => e = .returned (.tuple #[]) ∧ RPen w' b (pVec M (t, x) l).1 M (pVec M (t, x) l).2 ∧ Keep1 b w w' := by
  have yc := rcheck10 w ao cap l hf hc
  have hl' : (l.length : Int) ≤ 9223372036854775807 := by have := hf.1; unfold maxLen at this; omega
  by_cases h0 : vCheck l = 0
  case neg =>
    rw [pVec_no h0]
    have e0 : (vCheck l != 0) = true := by simpa using h0
    have yf := fun W (h : RPen W b t M x) => rpfail_any (vCheck l) h
    clear h0
    generalize vCheck l = C at *
    go_enter Tryz.func127, Tryz.ntmps127
    go_wp2_with fail
    refine yc.mono ?_
    rintro e w1 ⟨rfl, hw1⟩
    have k1 := keepN hw1
    have yf := yf _ (h.keep0 k1)
    clear yc hw1
    go_wp2_with fail
    refine yf.mono ?_
    rintro e w2 ⟨rfl, h2, k2⟩
    have K2 : Keep1 b w w2 := (k1.any (R := fun k => k = b)).trans k2
    clear yf k2 k1
    go_wp2
    (try simp only [Exit.inBlock, Exit.then])
    refine bodyPost_ret (results_none rfl _ _ _) rfl ?_
    exact ⟨rfl, h2, K2⟩
  rw [h0] at yc
  obtain ⟨h64, hg⟩ := (check_zero l).1 h0
  rw [pVec_yes h0]
  have HC : Hid (EnsAt w ao l) := hc
  have HG : Hid (∀ y ∈ l, y.a.size ≤ 32 ∧ U64 y.n) := fun y hy => ⟨(hg.1 y hy).2.1, (hf.2 y hy).2⟩
  have HN : Hid (0 < l.length → ApartE (fun k => k = b) ao) := hn
  have yp := fun W (h : RPen W b t M x) => rput_any l.length (by omega) h (by omega)
  have hs1 := pOne_size M (t, x) (vText l.length)
  have hs2 := (vText_le (n := l.length) (by omega)).2
  have HT : Hid ((pOne M (t, x) (vText l.length)).1.size ≤ t.size + 10) := by show _ ≤ _; have : (t, x).1.size = t.size := rfl; omega
  have i0 : IntKind.u64.wrap (l.length : Int) = (l.length : Int) := by rw [IntKind.wrap_u64]; omega
  obtain ⟨P, hP⟩ : ∃ P, pOne M (t, x) (vText l.length) = P := ⟨_, rfl⟩
  rw [hP] at yp HT ⊢
  obtain ⟨R, hR⟩ : ∃ R, pEnts M P l = R := ⟨_, rfl⟩
  rw [hR]
  have HR : Hid (pEnts M P l = R) := hR
  clear hP hs1 hs2 hg hc hn h0 hR
  go_enter Tryz.func127, Tryz.ntmps127
  go_wp2_with fail
  refine yc.mono ?_
  rintro e w1 ⟨rfl, hw1⟩
  have k1 := keepN hw1
  have yp := yp _ (h.keep0 k1)
  clear yc hw1
  go_wp2_with fail
  refine yp.mono ?_
  rintro e w2 ⟨rfl, h2, k2⟩
  have K2 : Keep1 b w w2 := (k1.any (R := fun k => k = b)).trans k2
  clear yp k2 k1
  go_wp2_with fail
  go_loopw [5] (fun i wr => ∃ (k : Nat), i = .int .i64 (k : Int) ∧ k ≤ l.length ∧ RPen wr b (pEnts M P (l.take k)).1 M (pEnts M P (l.take k)).2 ∧ Keep1 b w wr) (fun i _ => l.length - (intOf i).toNat)
  case atStart => exact ⟨0, rfl, by omega, h2, K2⟩
  case round =>
    obtain ⟨k, rfl, hk, hp, hK⟩ := hrel
    clear h2 K2
    by_cases hlt : k < l.length
    · have i1 : (k : Int) < l.length := by omega
      have hap := HN.out (by omega)
      have hcr := HC.out.keep hK hap
      obtain ⟨bb, off, rfl, x0, x1⟩ := hcr k hlt
      have hbb : bb ≠ b := hap _ _ _ rfl
      obtain ⟨hy, hyn⟩ := HG.out l[k] (List.getElem_mem hlt)
      have hsz := pEnts_size M (l.take k) P (fun y hy => HG.out y (List.mem_of_mem_take hy))
      rw [List.length_take, Nat.min_eq_left (by omega)] at hsz
      have hT := HT.out
      have HS : Hid (pEnts M P (l.take (k + 1)) = pEnt M (pEnts M P (l.take k)) l[k]) := pEnts_take hlt
      have yb := rbput_any 32 (by decide) l[k].a hp (by omega)
      have hws := wPut_size M 32 (pEnts M P (l.take k)) l[k].a (by omega)
      have hE : ((pEnts M P (l.take k)).1, (pEnts M P (l.take k)).2) = pEnts M P (l.take k) := rfl
      rw [hE] at yb
      have yn := fun W (h : RPen W b (wPut M 32 (pEnts M P (l.take k)) l[k].a).1 M (wPut M 32 (pEnts M P (l.take k)) l[k].a).2) => rput_any l[k].n hyn h (by omega)
      have hE2 : ((wPut M 32 (pEnts M P (l.take k)) l[k].a).1, (wPut M 32 (pEnts M P (l.take k)) l[k].a).2) = wPut M 32 (pEnts M P (l.take k)) l[k].a := rfl
      rw [hE2] at yn
      have hE3 : pOne M (wPut M 32 (pEnts M P (l.take k)) l[k].a) (vText l[k].n) = pEnt M (pEnts M P (l.take k)) l[k] := rfl
      rw [hE3, ← HS.out] at yn
      obtain ⟨P2, hP2⟩ : ∃ P2, pEnts M P (l.take (k + 1)) = P2 := ⟨_, rfl⟩
      rw [hP2] at yn
      have HS2 : Hid (pEnts M P (l.take (k + 1)) = P2) := hP2
      clear hP2 HS hap
      generalize wPut M 32 (pEnts M P (l.take k)) l[k].a = P1 at *
      generalize pEnts M P (l.take k) = P0 at *
      generalize l[k].a = A at *
      generalize (l[k].n : Int) = NN at *
      clear hE hE2 hE3 hws hsz hT hcr hp hy hyn
      go_wp2_with fail
      refine yb.mono ?_
      rintro e w3 ⟨rfl, h3, k3⟩
      have y1 := k3.cell x1 hbb
      have K3 := hK.trans k3
      have yn := yn _ h3
      clear yb k3 hK x0 x1 h3
      go_wp2_with fail
      refine yn.mono ?_
      rintro e w4 ⟨rfl, h4, k4⟩
      have K4 := K3.trans k4
      clear yn k4 K3 y1
      go_wp2
      go_roundw
      case rel => exact ⟨k + 1, by go_num, by omega, by rw [HS2.out]; exact h4, K4⟩
      case measure => simp [intOf]; omega
    · have i1 : ¬ (k : Int) < l.length := by omega
      have ek : l.take k = l := List.take_of_length_le (by omega)
      rw [ek, HR.out] at hp
      go_wp2
      go_end0
      exact ⟨rfl, hp, hK⟩
theorem ens_old {w : World} {ao : Option Addr} {l : List En} (h : EnsAt w ao l) (hl : 0 < l.length) : ∀ g off m, ao = some ⟨g, off, m⟩ → g < w.heap.size := by
  intro g off m e
  obtain ⟨b, o, e', h1, _⟩ := h 0 hl
  rw [e] at e'
  cases e'
  exact World.block_lt_of_cell? w _ h1
end Go.Proofs.YteonkfedgopdiaaGreat
namespace Go.Proofs.YteonkfedgopdiaaGreat
open Go.RowKit Go.WideShapes Go.ChangeShapes
theorem rd_bool {H : Type} {enc : TypeId × Value → H} {w : World} {t : TypeId} {cs : List Value} (ht : Tryz.prog.underlying t = some .bool) (h : Rd enc w t cs) : ∃ b, cs = [.bool b] := by
  obtain ⟨fuel, x, h⟩ := h
  obtain ⟨n, h1, _⟩ := DataW.trod_bool ht h
  exact ⟨n, h1⟩
structure Clk (w : World) where
  ao : Option Addr
  cap : Nat
  k : Ck
  fits : FitsK k
  at_ : EnsAt w ao k.c
def Clk.cs {w : World} (c : Clk w) : List Value := [.slice c.ao c.k.c.length c.cap, .bool c.k.d, .string c.k.x.a, .int .u64 (c.k.x.n : Int)]
set_option maxRecDepth 100000 in
theorem rd_clock {H : Type} {enc : TypeId × Value → H} {w : World} {cs : List Value} (h : Rd enc w 41 cs) : ∃ c : Clk w, cs = c.cs := by
  obtain ⟨hl, hf⟩ := rd_struct Tryz.underlying41 h
  have hl4 : cs.length = 4 := hl.trans (by kernel_rfl)
  match cs, hl4 with
  | [v0, v1, v2, v3], _ =>
    have g0 := hf 0 _ rfl
    have g1 := hf 1 _ rfl
    have g2 := hf 2 _ rfl
    have c0 : Tryz.prog.cellsOf 36 = 1 := by kernel_rfl
    have c1 : Tryz.prog.cellsOf 4 = 1 := by kernel_rfl
    have c2 : Tryz.prog.cellsOf 39 = 2 := by kernel_rfl
    simp [c0, c1, c2] at g0 g1 g2
    obtain ⟨ao, cap, l, e0, hfl, ha⟩ := rd_ens g0
    obtain ⟨d, e1⟩ := rd_bool Tryz.underlying4 g1
    obtain ⟨x, e2, hx, hn⟩ := rd_entry g2
    simp [En.cells] at e0 e1 e2
    refine ⟨⟨ao, cap, ⟨l, d, x⟩, ⟨hfl, hx, hn⟩, ha⟩, ?_⟩
    show [v0, v1, v2, v3] = [Value.slice ao l.length cap, .bool d, .string x.a, .int .u64 (x.n : Int)]
    rw [e0, e1, e2.1, e2.2]
end Go.Proofs.YteonkfedgopdiaaGreat
namespace Go.Proofs.YteonkfedgopdiaaGreat
open Go.RowKit
def Ok10 (l : List En) : Prop := l.length ≤ 10000 ∧ ∀ x ∈ l, x.a.size ≤ maxLen ∧ x.n < 18446744073709551616
theorem Ok10.fits {l : List En} (h : Ok10 l) : Fits l := ⟨by have := h.1; unfold maxLen; omega, h.2⟩
theorem Ok10.len {l : List En} (h : Ok10 l) : l.length ≤ maxLen := by have := h.1; unfold maxLen; omega
def xA : List En := [⟨⟨#[97]⟩, 1⟩, ⟨⟨#[98]⟩, 2⟩]
end Go.Proofs.YteonkfedgopdiaaGreat
