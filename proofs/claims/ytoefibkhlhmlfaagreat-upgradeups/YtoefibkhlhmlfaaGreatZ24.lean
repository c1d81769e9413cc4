/-
  What this seat's claims lean on of the texts RefOld5, RefObj, RefSib3, Beside, RefSib2, DcA.
  Conditions: as each theorem states.
-/
import Derived.WalkKit
import Derived.ProofKit
import Derived.Below
import Derived.Deep.Draws
import Derived.Deep.RegionHeld
import Derived.Test.YtoefibkhlhmlfaaGreatChecked
import Derived.OpenShut
import Derived.ShutString
import Derived.WalkSpells
import Derived.WalkLawsBesides
import Derived.Deep.QuietTactic
import Derived.BigQuiet
import Derived.Laws.Bits64b
import Derived.PlainAid
import Derived.Lib.AppendStr
import Derived.Deep.AppendLies
import Derived.Laws.IdiomStrings
import Derived.Laws.BytesArg
import Derived.Deep.RegionWith
import Derived.Laws.AppendOwn
import Derived.Deep.DeepAppendWide
import Derived.Deep.Upon
import Derived.Maps.AppendAt
import Derived.Deep.Slices
import Derived.Laws.Rows
import Derived.Test.YtoefibkhlhmlfaaGreatZ16
import Derived.Test.YtoefibkhlhmlfaaGreatZ22
import Derived.Test.YtoefibkhlhmlfaaGreatZ11
import Derived.Test.YtoefibkhlhmlfaaGreatZ15
import Derived.Test.YtoefibkhlhmlfaaGreatZ17
import Derived.Test.YtoefibkhlhmlfaaGreatZ5
import Derived.Test.YtoefibkhlhmlfaaGreatZ1
import Derived.Test.YtoefibkhlhmlfaaGreatZ20
import Derived.Test.YtoefibkhlhmlfaaGreatZ13
import Derived.Test.YtoefibkhlhmlfaaGreatZ10
import Derived.Test.YtoefibkhlhmlfaaGreatZ18
import Derived.Test.YtoefibkhlhmlfaaGreatZ23
namespace Go.Proofs.YtoefibkhlhmlfaaGreat
open Go.RowKit
theorem retOl2 {fn : Func} {p u : Tmp} (h : fn.results = #[.cell p 24, .tmp u]) (tmps : Array Value) (w : World) (g : Nat) {v0 v1 : Value}
    (hp : tmps.getD p undef = .pointer (some ⟨g, 0, none⟩)) (hg : DAt w g v0 v1) : (results fn tmps).run Tryz.prog w = .ok (.tuple #[.agg #[v0, v1], tmps.getD u undef]) w := by
  obtain ⟨ty, hk⟩ := hg.blk
  have hp' : tmps[p]?.getD undef = .pointer (some ⟨g, 0, none⟩) := by simpa using hp
  have hl := run_loadVar_row w g ty 24 _ _ _ hk Tryz.underlying24 rfl (by kernel_rfl)
  simp [results, h, hp', asAddr, hl]
theorem cEnd_zero17 {s : ByteArray} {a e : Int} (h : cEnd s a e = 0) : e = 0 := by
  unfold cEnd cFail at h
  split at h
  · split at h
    · assumption
    · exact h
  · exact h
theorem ROlE.mk {p : Ol × Int} {w w' : World} {e : Ending} {K : ByteArray} {L : List Po} {ao : Option Addr} {cap : Nat} (hp : p = (⟨K, L.map Po.x⟩, 0)) (h : e = .returned (.tuple #[.agg #[.string K, .slice ao L.length cap], .int .i64 0])) (h1 : L.length ≤ cap) (h2 : cap ≤ maxLen) (h3 : PosAt w' ao L) (h4 : Keep0 w w') : ROlE p w e w' := by
  subst hp
  exact ⟨ao, cap, L, h, rfl, h1, h2, h3, h4⟩
theorem okOs_fit {x : Os} (h : okOs x) : FitsOs x := by
  have h1 := (check_zero _).1 h.1.1
  exact ⟨⟨by unfold maxLen; omega, fun y hy => ⟨by have := (h1.2.1 y hy).2.1; unfold maxLen; omega, h.1.2 y hy⟩⟩, by have := h.2; unfold maxLen; omega⟩
end Go.Proofs.YtoefibkhlhmlfaaGreat
namespace Go.Proofs.YtoefibkhlhmlfaaGreat
open Go.RowKit
structure FitsO (o : Ob) : Prop where
  key : o.key.size ≤ maxLen
  len : o.l.length ≤ maxLen
  sib : ∀ x ∈ o.l, FitsS x
theorem FitsS.u {x : Sb} (h : FitsS x) : sbU x := ⟨fun y hy => (h.clk.vec.2 y hy).2, h.clk.num⟩
set_option maxRecDepth 100000 in
set_option maxHeartbeats 8000000 in
theorem rclock16 (w : World) (vo : Option Addr) (vc : Nat) (po : Option Addr) (pc : Nat) (x : Sb) (f : FitsS x) (h : SibIn w vo po pc x) :
    Calls Tryz.prog 51 #[.agg #[.slice vo x.k.c.length vc, .bool x.k.d, .string x.k.x.a, .int .u64 (x.k.x.n : Int), .slice po x.m.length pc, .bool x.d, .string x.v]] w fun e w' => e = .returned (.string (encK x.k).1) ∧ Keep0 w w' := by
  have kA : Keep0 w (w.alloc (.cells #[.slice vo x.k.c.length vc, .bool x.k.d, .string x.k.x.a, .int .u64 (x.k.x.n : Int), .slice po x.m.length pc, .bool x.d, .string x.v] 61)) := (Keep.refl _ w).alloc _
  obtain ⟨x0, x1, x2, x3, x4, x5, x6⟩ := sib_new w 61 x vo vc po pc
  have yk := rencode13 (w.alloc (.cells #[.slice vo x.k.c.length vc, .bool x.k.d, .string x.k.x.a, .int .u64 (x.k.x.n : Int), .slice po x.m.length pc, .bool x.d, .string x.v] 61)) vo vc x.k f.clk (h.ens.keep0 kA)
  generalize encK x.k = E at *
  go_enter Tryz.func51, Tryz.ntmps51
  go_wp2_with fail
  generalize (w.alloc (.cells #[.slice vo x.k.c.length vc, .bool x.k.d, .string x.k.x.a, .int .u64 (x.k.x.n : Int), .slice po x.m.length pc, .bool x.d, .string x.v] 61)) = W0 at *
  generalize w.heap.size = g at *
  refine yk.mono ?_
  rintro e w1 ⟨rfl, k1⟩
  have K1 := kA.trans k1
  clear yk k1 kA
  go_wp2
  go_ret
  exact ⟨rfl, K1⟩
set_option maxRecDepth 100000 in
set_option maxHeartbeats 8000000 in
theorem routside16 (w : World) (key : ByteArray) (hk : key.size ≤ maxLen) (n : Nat) :
    Calls Tryz.prog 48 #[.string key, .int .i64 (n : Int)] w fun e w' => e = .returned (.int .i64 (outS key n)) ∧ w = w' := by
  have i0 : (key.size : Int) ≤ 9223372036854775807 := by unfold maxLen at hk; omega
  unfold outS
  by_cases h1 : 128 < key.size
  · rw [if_pos h1]
    have j1 : (128 : Int) < key.size := by omega
    go_enter Tryz.func48, Tryz.ntmps48
    go_wp2
    go_ret
    exact ⟨rfl, rfl⟩
  rw [if_neg h1]
  have j1 : ¬ (128 : Int) < key.size := by omega
  by_cases h2 : key.size = 0
  · rw [if_pos h2]
    have j2 : (key.size : Int) = 0 := by omega
    go_enter Tryz.func48, Tryz.ntmps48
    go_wp2
    go_ret
    exact ⟨rfl, rfl⟩
  rw [if_neg h2]
  have j2 : ((key.size : Int) == 0) = false := beq_eq_false_iff_ne.2 (by omega)
  have j2' : ¬ (key.size : Int) = 0 := by omega
  by_cases h3 : 16 < n
  · rw [if_pos h3]
    have j3 : (16 : Int) < n := by omega
    go_enter Tryz.func48, Tryz.ntmps48
    go_wp2
    go_ret
    exact ⟨rfl, rfl⟩
  rw [if_neg h3]
  have j3 : ¬ (16 : Int) < n := by omega
  by_cases h4 : n = 0
  · rw [if_pos h4]
    have j4 : (n : Int) = 0 := by omega
    go_enter Tryz.func48, Tryz.ntmps48
    go_wp2
    go_ret
    exact ⟨rfl, rfl⟩
  rw [if_neg h4]
  have j4 : ((n : Int) == 0) = false := beq_eq_false_iff_ne.2 (by omega)
  have j4' : ¬ (n : Int) = 0 := by omega
  go_enter Tryz.func48, Tryz.ntmps48
  go_wp2
  go_ret
  exact ⟨rfl, rfl⟩
def oGreat (o : Ob) : Bool := decide (200 < o.key.size) || (decide (20 < o.l.length) || o.l.any sGreat)
theorem oGreat_no {o : Ob} (h : oGreat o = false) : o.key.size ≤ 200 ∧ o.l.length ≤ 20 ∧ ∀ x ∈ o.l, sGreat x = false := by
  unfold oGreat at h
  rw [Bool.or_eq_false_iff, Bool.or_eq_false_iff] at h
  have h1 := of_decide_eq_false h.1
  have h2 := of_decide_eq_false h.2.1
  exact ⟨by omega, by omega, fun x hx => by have := List.any_eq_false.1 h.2.2 x hx; simpa using this⟩
theorem any_drop {l : List Sb} {k : Nat} (hk : k < l.length) : (l.drop k).any sGreat = (sGreat l[k] || (l.drop (k + 1)).any sGreat) := by
  rw [List.drop_eq_getElem_cons hk, List.any_cons]
set_option maxRecDepth 100000 in
set_option maxHeartbeats 8000000 in
theorem rgreat16_any (w : World) (ao : Option Addr) (cap : Nat) (key : ByteArray) (l : List Sb) (hk : key.size ≤ maxLen) (hl : l.length ≤ maxLen) (hf : ∀ x ∈ l, FitsS x) (hc : SibsAt w ao l) :
    Calls Tryz.prog 8 #[.agg #[.string key, .slice ao l.length cap]] w fun e w' => e = .returned (.bool (oGreat ⟨key, l⟩)) ∧ Keep0 w w' := by
  have i0 : (key.size : Int) ≤ 9223372036854775807 := by unfold maxLen at hk; omega
  have i1 : (l.length : Int) ≤ 9223372036854775807 := by unfold maxLen at hl; omega
  have kA : Keep0 w (w.alloc (.cells #[.string key, .slice ao l.length cap] 27)) := (Keep.refl _ w).alloc _
  have x0 : (w.alloc (.cells #[.string key, .slice ao l.length cap] 27)).cell? ⟨w.heap.size, 0, none⟩ = some (.string key) := cell_alloc w _ rfl
  have x1 : (w.alloc (.cells #[.string key, .slice ao l.length cap] 27)).cell? ⟨w.heap.size, 1, none⟩ = some (.slice ao l.length cap) := cell_alloc w _ rfl
  have hg : oGreat ⟨key, l⟩ = (decide (200 < key.size) || (decide (20 < l.length) || l.any sGreat)) := rfl
  rw [hg]
  clear hg
  by_cases h1 : 200 < key.size
  · have j1 : (200 : Int) < key.size := by omega
    rw [decide_eq_true h1, Bool.true_or]
    clear hc hf
    go_enter Tryz.func8, Tryz.ntmps8
    go_wp2
    go_ret
    exact ⟨rfl, kA⟩
  have j1 : ¬ (200 : Int) < key.size := by omega
  rw [decide_eq_false h1, Bool.false_or]
  by_cases h2 : 20 < l.length
  · have j2 : (20 : Int) < l.length := by omega
    rw [decide_eq_true h2, Bool.true_or]
    clear hc hf
    go_enter Tryz.func8, Tryz.ntmps8
    go_wp2
    go_ret
    exact ⟨rfl, kA⟩
  have j2 : ¬ (20 : Int) < l.length := by omega
  rw [decide_eq_false h2, Bool.false_or]
  have HC : Hid (SibsAt w ao l) := hc
  have HF : Hid (∀ x ∈ l, FitsS x) := hf
  obtain ⟨r, hr⟩ : ∃ r, l.any sGreat = r := ⟨_, rfl⟩
  rw [hr]
  have HR : Hid ((l.drop 0).any sGreat = r) := by rw [List.drop_zero]; exact hr
  clear hc hf hr
  go_enter Tryz.func8, Tryz.ntmps8
  go_wp2_with fail
  generalize (w.alloc (.cells #[.string key, .slice ao l.length cap] 27)) = W0 at *
  generalize hg : w.heap.size = g at *
  go_loopw [3] (fun i wr => ∃ (k : Nat), i = .int .i64 (k : Int) ∧ k ≤ l.length ∧ Hid ((l.drop k).any sGreat = r) ∧ wr.cell? ⟨g, 1, none⟩ = some (.slice ao l.length cap) ∧ Keep0 w wr) (fun i _ => l.length - (intOf i).toNat)
  case atStart => exact ⟨0, rfl, by omega, HR, x1, kA⟩
  case round =>
    obtain ⟨k, rfl, hk, HK, xk, hK⟩ := hrel
    clear HR x0 x1 kA
    by_cases hlt : k < l.length
    · have i2 : (k : Int) < l.length := by omega
      obtain ⟨b, off, vo, vc, po, pc, rfl, s1, s2⟩ := HC.out k hlt
      obtain ⟨a0, a1, a2, a3, a4, a5, a6⟩ := s1.keep0 hK
      have yg := rgreat15 wr vo vc po pc l[k] (HF.out _ (List.getElem_mem hlt)) (s2.keep0 hK)
      have hd := HK.out
      rw [any_drop hlt] at hd
      clear s1 s2 HK
      cases hs : sGreat l[k] with
      | true =>
        rw [hs] at yg hd
        have HD : Hid (true = r) := by rw [← hd]; rfl
        clear hd hs
        generalize l[k] = X at *
        go_wp2_with fail
        refine yg.mono ?_
        rintro e w1 ⟨rfl, k1⟩
        have K1 := hK.trans k1
        clear yg k1 hK
        go_wp2
        go_ret
        exact ⟨by rw [← HD.out]; rfl, K1⟩
      | false =>
        rw [hs] at yg hd
        have HD : Hid ((l.drop (k + 1)).any sGreat = r) := by rw [← hd]; rfl
        clear hd hs
        generalize l[k] = X at *
        go_wp2_with fail
        refine yg.mono ?_
        rintro e w1 ⟨rfl, k1⟩
        have K1 := hK.trans k1
        replace xk := k1.cell xk (fun f => f)
        clear yg k1 hK a0 a1 a2 a3 a4 a5 a6
        go_wp2
        go_roundw
        case rel => exact ⟨k + 1, by go_num, by omega, HD, xk, K1⟩
        case measure => simp [intOf]; omega
    · have i2 : ¬ (k : Int) < l.length := by omega
      have hd := HK.out
      rw [List.drop_eq_nil_of_le (by omega)] at hd
      have HD : Hid (false = r) := hd
      clear hd HK
      go_wp2
      go_ret
      exact ⟨by rw [← HD.out]; rfl, hK⟩
theorem rgreat16 (w : World) (ao : Option Addr) (cap : Nat) (o : Ob) (f : FitsO o) (hc : SibsAt w ao o.l) :
    Calls Tryz.prog 8 #[.agg #[.string o.key, .slice ao o.l.length cap]] w fun e w' => e = .returned (.bool (oGreat o)) ∧ Keep0 w w' :=
  rgreat16_any w ao cap o.key o.l f.key f.len f.sib hc
end Go.Proofs.YtoefibkhlhmlfaaGreat
namespace Go.Proofs.YtoefibkhlhmlfaaGreat
open Go.RowKit
def RTakeS (r : Sb × Int × Int) (s : ByteArray) (b : Nat) (w : World) (e : Ending) (w' : World) : Prop := ∃ vo vc po pc, e = .returned (.agg #[.slice vo r.1.k.c.length vc, .bool r.1.k.d, .string r.1.k.x.a, .int .u64 (r.1.k.x.n : Int), .slice po r.1.m.length pc, .bool r.1.d, .string r.1.v]) ∧ Cur w' b s r.2.1 r.2.2 ∧ SibIn w' vo po pc r.1 ∧ (∀ g off m, vo = some ⟨g, off, m⟩ → w.heap.size ≤ g) ∧ (∀ g off m, po = some ⟨g, off, m⟩ → w.heap.size ≤ g) ∧ Keep1 b w w'
theorem sibIn_zero (w : World) : SibIn w none none 0 zSb := ⟨ens_nil _ _, prs_nil _ _, Nat.le_refl _, Nat.zero_le _⟩
theorem RTakeS.bare {r : Sb × Int × Int} {s : ByteArray} {b : Nat} {w w' : World} {e : Ending} {A E : Int} (hr : r = (zSb, A, E)) (h : e = .returned (.agg #[.slice none 0 0, .bool false, .string ⟨#[]⟩, .int .u64 0, .slice none 0 0, .bool false, .string ⟨#[]⟩])) (h1 : Cur w' b s A E) (h4 : Keep1 b w w') : RTakeS r s b w e w' := by
  subst hr
  exact ⟨none, 0, none, 0, h, h1, sibIn_zero _, (fun _ _ _ e => by cases e), (fun _ _ _ e => by cases e), h4⟩
theorem RTakeS.mk {r : Sb × Int × Int} {s : ByteArray} {b : Nat} {w w' : World} {e : Ending} {A E : Int} {KK : Ck} {PP : List Pr} {GB : Bool} {BT : ByteArray} {vo po : Option Addr} {vc pc : Nat} (hr : r = (⟨KK, PP, GB, BT⟩, A, E)) (h : e = .returned (.agg #[.slice vo KK.c.length vc, .bool KK.d, .string KK.x.a, .int .u64 (KK.x.n : Int), .slice po PP.length pc, .bool GB, .string BT])) (h1 : Cur w' b s A E) (h2 : EnsAt w' vo KK.c) (h2' : PrsAt w' po PP) (hcp : CapP PP pc) (h3 : ∀ g off m, vo = some ⟨g, off, m⟩ → w.heap.size ≤ g) (h3' : ∀ g off m, po = some ⟨g, off, m⟩ → w.heap.size ≤ g) (h4 : Keep1 b w w') : RTakeS r s b w e w' := by
  subst hr
  exact ⟨vo, vc, po, pc, h, h1, ⟨h2, h2', hcp⟩, h3, h3', h4⟩
end Go.Proofs.YtoefibkhlhmlfaaGreat
namespace Go.Proofs.YtoefibkhlhmlfaaGreat
open Go.RowKit
theorem DAt.idx {w : World} {g : Nat} {v0 v1 : Value} (h : DAt w g v0 v1) {o : Nat} {u : Value} (hc : w.cell? ⟨g, o, none⟩ = some u) : (o = 0 ∧ u = v0) ∨ (o = 1 ∧ u = v1) := by
  obtain ⟨ty, hk⟩ := h.blk
  match o, hc with
  | 0, hc => simp [World.cell?, hk] at hc; exact .inl ⟨rfl, hc.symm⟩
  | 1, hc => simp [World.cell?, hk] at hc; exact .inr ⟨rfl, hc.symm⟩
  | o + 2, hc => simp [World.cell?, hk] at hc
theorem ens_beside {w w' : World} {g : Nat} {a : ByteArray} {b : Option Addr} {n c : Nat} (hd : DAt w g (.string a) (.slice b n c)) (K : Keep1 g w w') {ao : Option Addr} {l : List En} (h : EnsAt w ao l) : EnsAt w' ao l := by
  intro i hi
  obtain ⟨bb, off, e, h1, h2⟩ := h i hi
  have hb : ¬ bb = g := by
    intro e2
    subst e2
    rcases hd.idx h2 with ⟨_, e3⟩ | ⟨_, e3⟩
    · cases e3
    · cases e3
  exact ⟨bb, off, e, K.cell h1 hb, K.cell h2 hb⟩
theorem prs_beside {w w' : World} {g : Nat} {a : ByteArray} {b : Option Addr} {n c : Nat} (hd : DAt w g (.string a) (.slice b n c)) (K : Keep1 g w w') {ao : Option Addr} {l : List Pr} (h : PrsAt w ao l) : PrsAt w' ao l := by
  intro i hi
  obtain ⟨bb, off, e, h1, h2⟩ := h i hi
  have hb : ¬ bb = g := by
    intro e2
    subst e2
    rcases hd.idx h2 with ⟨e3, _⟩ | ⟨_, e3⟩
    · omega
    · cases e3
  exact ⟨bb, off, e, K.cell h1 hb, K.cell h2 hb⟩
theorem pls_beside {w w' : World} {g : Nat} {a : ByteArray} {b : Option Addr} {n c : Nat} (hd : DAt w g (.string a) (.slice b n c)) (K : Keep1 g w w') {ao : Option Addr} {L : List Pl} (h : PlsAt w ao L) : PlsAt w' ao L := by
  refine ⟨fun i hi => ?_, fun p hp => ⟨ens_beside hd K (h.ins p hp).ens, prs_beside hd K (h.ins p hp).prs, (h.ins p hp).room⟩⟩
  obtain ⟨bb, off, e, h1⟩ := h.row i hi
  have hb : ¬ bb = g := by
    intro e2
    subst e2
    rcases hd.idx (h1 0 _ rfl) with ⟨_, e3⟩ | ⟨e3, _⟩
    · cases e3
    · rcases hd.idx (h1 1 _ rfl) with ⟨e4, _⟩ | ⟨e4, _⟩ <;> omega
  exact ⟨bb, off, e, fun j u hu => K.cell (h1 j u hu) hb⟩
end Go.Proofs.YtoefibkhlhmlfaaGreat
namespace Go.Proofs.YtoefibkhlhmlfaaGreat
open Go.RowKit
theorem prs_old {w : World} {ao : Option Addr} {l : List Pr} (h : PrsAt w ao l) (hl : 0 < l.length) : ∀ g off m, ao = some ⟨g, off, m⟩ → g < w.heap.size := by
  intro g off m e
  obtain ⟨b, o, e', h1, _⟩ := h 0 hl
  rw [e] at e'
  cases e'
  exact World.block_lt_of_cell? w _ h1
end Go.Proofs.YtoefibkhlhmlfaaGreat
namespace Go.Proofs.YtoefibkhlhmlfaaGreat
open Go.RowKit
theorem set_fine {s : ByteArray} {a x : Int} (h : gSet s a x = true) : x = 0 ∧ gErr s a x = 0 := by
  have hb : cByte s a x = 1 := of_decide_eq_true h
  have h2 : x = 0 ∧ a < s.size := by
    refine Decidable.byContradiction fun e => ?_
    unfold cByte at hb
    rw [if_neg e] at hb
    exact absurd hb (by decide)
  obtain ⟨rfl, h3⟩ := h2
  refine ⟨rfl, ?_⟩
  unfold gErr
  rw [if_neg (by omega), cErr_fit (by decide) (by omega)]
theorem set_err {s : ByteArray} {a x : Int} (h : x ≠ 0) : gSet s a x = false ∧ gErr s a x = x ∧ cAt s a x 1 = a := by
  have hb : cByte s a x = 0 := if_neg (fun e => h e.1)
  refine ⟨?_, ?_, cAt_bad 1 h⟩
  · unfold gSet
    rw [hb]
    rfl
  · unfold gErr
    rw [hb, if_neg (by decide), cErr_bad 1 h]
def kWhen (k : Ck) (A F : Int) : Ck × Int × Int := if F = 0 then (k, A, 0) else (zCk, A, F)
theorem when_yes (k : Ck) (A : Int) : kWhen k A 0 = (k, A, 0) := if_pos rfl
theorem when_no {k : Ck} {A F : Int} (h : F ≠ 0) : kWhen k A F = (zCk, A, F) := if_neg h
section
variable {s : ByteArray} {a x : Int} {V : List En} {b E : Int}
theorem chain_plain (hr : rX [] rVec s a x = (V, b, E)) (hv : vCheck V = 0) (hs : gSet s b E = false) :
    rX zCk rClk s a x = kWhen ⟨V, false, zEn⟩ (cAt s b E 1) (cFail (gErr s b E) (kCheck ⟨V, false, zEn⟩)) := by
  by_cases hE : E = 0
  · subst hE
    have hx : x = 0 := by
      refine Decidable.byContradiction fun e => ?_
      rw [rX_no e] at hr
      exact e (congrArg (fun q : List En × Int × Int => q.2.2) hr)
    subst hx
    rw [rX_yes] at hr ⊢
    by_cases hg : gErr s b 0 = 0
    · have hk : kCheck ⟨V, false, zEn⟩ = 0 := by
        rw [check_dot (k := ⟨V, false, zEn⟩) hv]
        exact dot_p0 rfl rfl rfl
      rw [clk_3 hr hg hs, hg, hk, cFail_yes, when_yes]
    · rw [clk_2 hr hg, cFail_no hg, when_no hg]
  · obtain ⟨_, h1, h2⟩ := set_err (s := s) (a := b) hE
    rw [h1, h2, cFail_no hE, when_no hE]
    by_cases hx : x = 0
    · subst hx
      rw [rX_yes] at hr ⊢
      rw [clk_1 (by rw [hr]; exact hE), hr]
    · rw [rX_no hx] at hr ⊢
      have h3 : (a, x) = (b, E) := congrArg (fun q : List En × Int × Int => q.2) hr
      show (zCk, (a, x)) = (zCk, (b, E))
      rw [h3]
theorem chain_dot (hr : rX [] rVec s a x = (V, b, E)) (hv : vCheck V = 0) (hs : gSet s b E = true) {A : Int} (hA : cAt s b E 1 = A) {N : Nat} (hN : tNum s (bAt s A 0 32) (zAct none s A) = (N : Int)) :
    rX zCk rClk s a x = kWhen ⟨V, true, ⟨bTxt s A 0 32, N⟩⟩ (tAt s (bAt s A 0 32) (zAct none s A)) (cFail (tErr s (bAt s A 0 32) (zAct none s A)) (kCheck ⟨V, true, ⟨bTxt s A 0 32, N⟩⟩)) := by
  obtain ⟨rfl, hg⟩ := set_fine hs
  have hx : x = 0 := by
    refine Decidable.byContradiction fun e => ?_
    rw [rX_no e] at hr
    exact e (congrArg (fun q : List En × Int × Int => q.2.2) hr)
  subst hx
  rw [rX_yes] at hr ⊢
  rw [clk_dot hr hg hs, hA]
  have hall := ent_all none s A
  have hz : zCnt s (bAt s A 0 32) (zAct none s A) = if N = 0 then cFail (tErr s (bAt s A 0 32) (zAct none s A)) 7 else tErr s (bAt s A 0 32) (zAct none s A) := by
    unfold zCnt
    rw [hN]
    by_cases h : N = 0
    · subst h; rfl
    · rw [if_neg h, if_neg (by omega)]
  by_cases h3 : tErr s (bAt s A 0 32) (zAct none s A) = 0
  case neg =>
    have hz2 : zCnt s (bAt s A 0 32) (zAct none s A) = tErr s (bAt s A 0 32) (zAct none s A) := by
      rw [hz]
      split
      · exact cFail_no h3 7
      · rfl
    rw [hz2] at hall
    have hd := dot_bad (V := V) (show (rEnt none s A).2.2 ≠ 0 by rw [hall]; exact h3)
    rw [hall] at hd
    rw [hd, if_neg h3, cFail_no h3, when_no h3]
  have h2 : zAct none s A = 0 := by
    refine Decidable.byContradiction fun e => ?_
    rw [tErr_err e] at h3
    exact e h3
  have hsz : (bTxt s A 0 32).size ≤ 32 := zAct_size
  have hne : (bTxt s A 0 32).size ≠ 0 := by
    intro e
    have e2 : aTest none (bTxt s A 0 32) = 14 := if_pos e
    unfold zAct at h2
    rw [e2] at h2
    unfold cFail at h2
    split at h2
    · exact absurd h2 (by decide)
    · rename_i h4; exact h4 h2
  have hck : kCheck ⟨V, true, ⟨bTxt s A 0 32, N⟩⟩ = kDot ⟨V, true, ⟨bTxt s A 0 32, N⟩⟩ := check_dot (k := ⟨V, true, ⟨bTxt s A 0 32, N⟩⟩) hv
  rw [h3, cFail_yes, hck]
  rw [h3] at hz
  by_cases h4 : N = 0
  · rw [if_pos h4, cFail_yes] at hz
    rw [hz] at hall
    have hd := dot_bad (V := V) (show (rEnt none s A).2.2 ≠ 0 by rw [hall]; show (7 : Int) ≠ 0; decide)
    rw [hall] at hd
    rw [hd, if_neg (show ¬ (7 : Int) = 0 by decide), dot_7 (k := ⟨V, true, ⟨bTxt s A 0 32, N⟩⟩) rfl (by show ¬ 32 < (bTxt s A 0 32).size; omega) hne h4, when_no (by decide)]
  · rw [if_neg h4] at hz
    have hf := ent_fine (p := none) hz
    rw [hz] at hall
    have hN2 : (tNum s (bAt s A 0 32) (zAct none s A)).toNat = N := by omega
    rw [hN2] at hf
    have h0 : (rEnt none s A).2.2 = 0 := by rw [hall]
    by_cases h5 : N ≤ vCount V (bTxt s A 0 32)
    · have hd := dot_15' (V := V) h0 (by rw [hf]; exact h5)
      rw [hall] at hd
      rw [hd, if_neg (show ¬ (15 : Int) = 0 by decide), dot_15 (k := ⟨V, true, ⟨bTxt s A 0 32, N⟩⟩) rfl (by show ¬ 32 < (bTxt s A 0 32).size; omega) hne h4 h5, when_no (by decide)]
    · have hd := dot_yes (V := V) h0 (by rw [hf]; exact h5)
      rw [hd, h0, if_pos rfl, hf, hall, dot_0 (k := ⟨V, true, ⟨bTxt s A 0 32, N⟩⟩) rfl (by show ¬ 32 < (bTxt s A 0 32).size; omega) hne h4 h5, when_yes]
end
theorem vec_bad {s : ByteArray} {a : Int} (he : (rVec s a).2.2 ≠ 0) : (rVec s a).1 = [] := by
  by_cases hk : kErr s a 0 64 = 0
  · rw [vec_b hk] at he ⊢
    unfold lift at he ⊢
    split
    · rename_i h; rw [if_pos h] at he; exact absurd h he
    · rfl
  · rw [vec_a hk]
theorem vec_right {s : ByteArray} {a x : Int} (h0 : 0 ≤ a) (h1 : a ≤ s.size) {V : List En} {b E : Int} (hr : rX [] rVec s a x = (V, b, E)) : vCheck V = 0 ∧ Ok10 V := by
  have hn : vCheck [] = 0 ∧ Ok10 [] := ⟨rfl, by simp [Ok10]⟩
  by_cases hx : x = 0
  · subst hx
    rw [rX_yes] at hr
    have e1 : (rVec s a).1 = V := by rw [hr]
    by_cases he : (rVec s a).2.2 = 0
    · obtain ⟨hk, hu⟩ := (vec_codec.read h0 h1 he).1
      rw [e1] at hk hu
      obtain ⟨h2, h3⟩ := (check_zero _).1 hk
      exact ⟨hk, by omega, fun y hy => ⟨by have := (h3.1 y hy).2.1; unfold maxLen; omega, hu y hy⟩⟩
    · rw [vec_bad he] at e1
      rw [← e1]
      exact hn
  · rw [rX_no hx] at hr
    have e1 : [] = V := congrArg Prod.fst hr
    rw [← e1]
    exact hn
end Go.Proofs.YtoefibkhlhmlfaaGreat
