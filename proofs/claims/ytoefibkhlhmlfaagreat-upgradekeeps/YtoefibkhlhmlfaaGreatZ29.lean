/-
  What this seat's claims lean on of the texts OwnPl, RefObj3.
  Conditions: as each theorem states.
-/
import Derived.WalkKit
import Derived.ProofKit
import Derived.Below
import Derived.Deep.Draws
import Derived.Deep.RegionHeld
import Derived.Test.YtoefibkhlhmlfaaGreatChecked
import Derived.OpenShut
import Derived.ShutString
import Derived.WalkSpells
import Derived.WalkLawsBesides
import Derived.Deep.QuietTactic
import Derived.BigQuiet
import Derived.Laws.Bits64b
import Derived.PlainAid
import Derived.Lib.AppendStr
import Derived.Deep.AppendLies
import Derived.Laws.IdiomStrings
import Derived.Laws.BytesArg
import Derived.Deep.RegionWith
import Derived.Laws.AppendOwn
import Derived.Deep.DeepAppendWide
import Derived.Deep.Upon
import Derived.Maps.AppendAt
import Derived.Laws.Rows
import Derived.Deep.Slices
import Derived.Test.YtoefibkhlhmlfaaGreatZ26
namespace Go.Proofs.YtoefibkhlhmlfaaGreat
open Go.RowKit
structure OwnP (B : Nat) (w : World) (v : Value) (L : List Pl) : Prop where
  row : w.ownsRow B 61 7 v L.length (rowOf Pl.cells L)
  ins : ∀ p ∈ L, p.in w
  vec : ∀ p ∈ L, ∀ g off m, p.vo = some ⟨g, off, m⟩ → B ≤ g ∧ (p.x.k.c.length = 0 ∨ v.ownBlock ≠ some g)
  prs : ∀ p ∈ L, ∀ g off m, p.po = some ⟨g, off, m⟩ → B ≤ g ∧ (p.x.m.length = 0 ∨ v.ownBlock ≠ some g)
theorem ens_keepE {R : Nat → Prop} {w w' : World} {ao : Option Addr} {l : List En} (h : EnsAt w ao l) (K : Keep R w w') (hn : ∀ g off m, ao = some ⟨g, off, m⟩ → l.length = 0 ∨ ¬ R g) : EnsAt w' ao l := by
  by_cases h0 : l.length = 0
  · exact fun i hi => by omega
  · exact h.keep K (fun g off m e => (hn g off m e).resolve_left h0)
theorem prs_keepE {R : Nat → Prop} {w w' : World} {ao : Option Addr} {l : List Pr} (h : PrsAt w ao l) (K : Keep R w w') (hn : ∀ g off m, ao = some ⟨g, off, m⟩ → l.length = 0 ∨ ¬ R g) : PrsAt w' ao l := by
  by_cases h0 : l.length = 0
  · exact fun i hi => by omega
  · exact h.keep K (fun g off m e => (hn g off m e).resolve_left h0)
theorem ens_lt {w : World} {ao : Option Addr} {l : List En} (h : EnsAt w ao l) : ∀ g off m, ao = some ⟨g, off, m⟩ → l.length = 0 ∨ g < w.heap.size := by
  intro g off m e
  by_cases h0 : l.length = 0
  · exact .inl h0
  · obtain ⟨b, o, e', h1, _⟩ := h 0 (by omega)
    rw [e] at e'
    cases e'
    exact .inr (World.block_lt_of_cell? w _ h1)
theorem prs_lt {w : World} {ao : Option Addr} {l : List Pr} (h : PrsAt w ao l) : ∀ g off m, ao = some ⟨g, off, m⟩ → l.length = 0 ∨ g < w.heap.size := by
  intro g off m e
  by_cases h0 : l.length = 0
  · exact .inl h0
  · obtain ⟨b, o, e', h1, _⟩ := h 0 (by omega)
    rw [e] at e'
    cases e'
    exact .inr (World.block_lt_of_cell? w _ h1)
theorem OwnP.nil (B : Nat) (w : World) : OwnP B w (.slice none 0 0) [] := ⟨⟨by show 0 = 0 * 7; rfl, .inl ⟨rfl, rfl⟩⟩, (fun _ h => by cases h), (fun _ h => by cases h), (fun _ h => by cases h)⟩
theorem OwnP.keep {R : Nat → Prop} {B : Nat} {w w' : World} {v : Value} {L : List Pl} (h : OwnP B w v L) (K : Keep R w w') (hn : ∀ g, B ≤ g → ¬ R g) : OwnP B w' v L :=
  ⟨rowE_keep h.row K hn, fun p hp => ⟨(h.ins p hp).ens.keep K (fun g off m e => hn g (h.vec p hp g off m e).1), (h.ins p hp).prs.keep K (fun g off m e => hn g (h.prs p hp g off m e).1), (h.ins p hp).room⟩, h.vec, h.prs⟩
theorem OwnP.keep0 {B : Nat} {w w' : World} {v : Value} {L : List Pl} (h : OwnP B w v L) (K : Keep0 w w') : OwnP B w' v L := h.keep K (fun _ _ f => f)
theorem OwnP.newL {B : Nat} {w : World} {v : Value} {L : List Pl} (h : OwnP B w v L) : ∃ ao cap, v = .slice ao L.length cap ∧ NewL B w ao L ∧ L.length ≤ cap ∧ cap ≤ maxLen := by
  obtain ⟨ao, cap, e, h1, h2, h3, h4⟩ := row_of_own plT.len plT.pos h.row
  exact ⟨ao, cap, e, ⟨⟨h1, h.ins⟩, h2, fun p hp g off m e => (h.vec p hp g off m e).1, fun p hp g off m e => (h.prs p hp g off m e).1⟩, h3, h4⟩
theorem OwnP.lt {B : Nat} {w : World} {v : Value} {L : List Pl} (h : OwnP B w v L) : ∀ g, v.ownBlock = some g → B ≤ g ∧ g < w.heap.size := fun g e => h.row.lt g e
theorem OwnP.more {B : Nat} {w w' : World} {v v' : Value} {L : List Pl} {p : Pl} (h : OwnP B w v L) (hp : p.in w) (hv : ∀ g off m, p.vo = some ⟨g, off, m⟩ → B ≤ g ∧ (p.x.k.c.length = 0 ∨ v.ownBlock ≠ some g)) (hq : ∀ g off m, p.po = some ⟨g, off, m⟩ → B ≤ g ∧ (p.x.m.length = 0 ∨ v.ownBlock ≠ some g))
    (h1 : w'.ownsRow B 61 7 v' (L ++ [p]).length (rowOf Pl.cells (L ++ [p]))) (h2 : w.grownBy w' v.ownBlock) (h3 : v'.ownBlock = v.ownBlock ∨ v'.ownBlock = some w.heap.size) : OwnP B w' v' (L ++ [p]) := by
  have K := keep_grown h2
  have all : ∀ q ∈ L ++ [p], q.in w ∧ (∀ g off m, q.vo = some ⟨g, off, m⟩ → B ≤ g ∧ (q.x.k.c.length = 0 ∨ v.ownBlock ≠ some g)) ∧ (∀ g off m, q.po = some ⟨g, off, m⟩ → B ≤ g ∧ (q.x.m.length = 0 ∨ v.ownBlock ≠ some g)) := by
    intro q hq'
    rcases List.mem_append.1 hq' with hq' | hq'
    · exact ⟨h.ins q hq', h.vec q hq', h.prs q hq'⟩
    · rw [List.mem_singleton.1 hq']; exact ⟨hp, hv, hq⟩
  refine ⟨h1, fun q hq' => ?_, fun q hq' g off m e => ?_, fun q hq' g off m e => ?_⟩
  · obtain ⟨a1, a2, a3⟩ := all q hq'
    exact ⟨ens_keepE a1.ens K (fun g off m e => (a2 g off m e).2), prs_keepE a1.prs K (fun g off m e => (a3 g off m e).2), a1.room⟩
  · obtain ⟨a1, a2, a3⟩ := all q hq'
    refine ⟨(a2 g off m e).1, ?_⟩
    rcases h3 with e3 | e3
    · rw [e3]; exact (a2 g off m e).2
    · rcases ens_lt a1.ens g off m e with z | z
      · exact .inl z
      · exact .inr (fun e4 => by rw [e3] at e4; cases e4; omega)
  · obtain ⟨a1, a2, a3⟩ := all q hq'
    refine ⟨(a3 g off m e).1, ?_⟩
    rcases h3 with e3 | e3
    · rw [e3]; exact (a3 g off m e).2
    · rcases prs_lt a1.prs g off m e with z | z
      · exact .inl z
      · exact .inr (fun e4 => by rw [e3] at e4; cases e4; omega)
end Go.Proofs.YtoefibkhlhmlfaaGreat
namespace Go.Proofs.YtoefibkhlhmlfaaGreat
open Go.RowKit
def pvk (l : List Sb) : Nat → Option ByteArray
  | 0 => none
  | k + 1 => (l[k]?).map kb
theorem pvk_zero (l : List Sb) : pvk l 0 = none := rfl
theorem pvk_succ {l : List Sb} {k : Nat} (h : k < l.length) : pvk l (k + 1) = some (kb l[k]) := by
  show (l[k]?).map kb = _
  rw [List.getElem?_eq_getElem h]
  rfl
theorem goS_drop {l : List Sb} {k : Nat} (hk : k < l.length) : oGo (pvk l k) (l.drop k) = if oOne (pvk l k) l[k] = 0 then oGo (pvk l (k + 1)) (l.drop (k + 1)) else oOne (pvk l k) l[k] := by
  rw [List.drop_eq_getElem_cons hk, oGo, pvk_succ hk]
  rfl
theorem oOne_bad {p : Option ByteArray} {x : Sb} (h : sCheck x ≠ 0) : oOne p x = sCheck x := if_neg h
theorem oOne_first {x : Sb} (h : sCheck x = 0) : oOne none x = 0 := oOne_zero.2 ⟨h, fTest_zero.2 (fun q e => by cases e)⟩
theorem oOne_up {q : ByteArray} {x : Sb} (h : sCheck x = 0) (h1 : bl q (kb x) = true) : oOne (some q) x = 0 := oOne_zero.2 ⟨h, fTest_zero.2 (fun q' e => by cases e; exact h1)⟩
theorem oOne_down {q : ByteArray} {x : Sb} (h : sCheck x = 0) (h1 : bl q (kb x) = false) : oOne (some q) x = 6 := by
  unfold oOne fTest
  rw [if_pos h, falls_some]
  have e : bl q (eClk x.k) = false := h1
  rw [e]
  rfl
theorem clock_ok {x : Sb} (f : FitsS x) (h : sCheck x = 0) : (encK x.k).1 = kb x ∧ (kb x).size ≤ maxLen := by
  obtain ⟨h1, _, _⟩ := sCheck_zero.1 h
  have e : encK x.k = (eClk x.k, 0) := if_pos h1
  have hs := eClk_size (k := x.k) ⟨h1, f.u.1, f.u.2⟩
  exact ⟨by rw [e]; rfl, by show (eClk x.k).size ≤ maxLen; unfold maxLen; omega⟩
set_option maxRecDepth 100000 in
set_option maxHeartbeats 8000000 in
theorem rcheck16_any (w : World) (ao : Option Addr) (cap : Nat) (key : ByteArray) (l : List Sb) (hk : key.size ≤ maxLen) (hl : l.length ≤ maxLen) (hf : ∀ x ∈ l, FitsS x) (hc : SibsAt w ao l) :
    Calls Tryz.prog 20 #[.agg #[.string key, .slice ao l.length cap]] w fun e w' => e = .returned (.int .i64 (oCheck ⟨key, l⟩)) ∧ Keep0 w w' := by
  have i1 : (l.length : Int) ≤ 9223372036854775807 := by unfold maxLen at hl; omega
  have kA : Keep0 w (w.alloc (.cells #[.string key, .slice ao l.length cap] 27)) := (Keep.refl _ w).alloc _
  have x0 : (w.alloc (.cells #[.string key, .slice ao l.length cap] 27)).cell? ⟨w.heap.size, 0, none⟩ = some (.string key) := cell_alloc w _ rfl
  have x1 : (w.alloc (.cells #[.string key, .slice ao l.length cap] 27)).cell? ⟨w.heap.size, 1, none⟩ = some (.slice ao l.length cap) := cell_alloc w _ rfl
  have yo := fun W => routside16 W key hk l.length
  have hg : oCheck ⟨key, l⟩ = if outS key l.length = 0 then oGo none l else outS key l.length := rfl
  rw [hg]
  clear hg
  by_cases h0 : outS key l.length = 0
  case neg =>
    rw [if_neg h0]
    have e0 : (outS key l.length != 0) = true := by simpa using h0
    clear hc hf h0
    generalize outS key l.length = C at *
    go_enter Tryz.func20, Tryz.ntmps20
    go_wp2_with fail
    refine (yo _).mono ?_
    rintro e w1 ⟨rfl, rfl⟩
    go_wp2
    go_ret
    exact ⟨rfl, kA⟩
  rw [if_pos h0]
  rw [h0] at yo
  have HC : Hid (SibsAt w ao l) := hc
  have HF : Hid (∀ x ∈ l, FitsS x) := hf
  obtain ⟨r, hr⟩ : ∃ r, oGo none l = r := ⟨_, rfl⟩
  rw [hr]
  have HR : Hid (oGo (pvk l 0) (l.drop 0) = r) := by rw [List.drop_zero]; exact hr
  clear hc hf hr h0
  go_enter Tryz.func20, Tryz.ntmps20
  go_wp2_with fail
  refine (yo _).mono ?_
  rintro e w1 ⟨rfl, rfl⟩
  clear yo
  go_wp2_with fail
  generalize (w.alloc (.cells #[.string key, .slice ao l.length cap] 27)) = W0 at *
  generalize hg : w.heap.size = g at *
  go_loopw [4] (fun i wr => ∃ (k : Nat), i = .int .i64 (k : Int) ∧ k ≤ l.length ∧ Hid (oGo (pvk l k) (l.drop k) = r) ∧ Hid (∀ q (_ : q < l.length), q < k → sCheck l[q] = 0) ∧ wr.cell? ⟨g, 1, none⟩ = some (.slice ao l.length cap) ∧ Keep0 w wr) (fun i _ => l.length - (intOf i).toNat)
  case atStart => exact ⟨0, rfl, by omega, HR, (fun q _ h => absurd h (Nat.not_lt_zero q)), x1, kA⟩
  case round =>
    obtain ⟨k, rfl, hk, HK, HQ, xk, hK⟩ := hrel
    clear HR x0 x1 kA
    by_cases hlt : k < l.length
    · have j2 : (k : Int) < l.length := by omega
      obtain ⟨b, off, vo', vc', po', pc', rfl, s1, s2⟩ := HC.out k hlt
      have hfk := HF.out _ (List.getElem_mem hlt)
      obtain ⟨a0, a1, a2, a3, a4, a5, a6⟩ := s1.keep0 hK
      have yc := rcheck15 wr vo' vc' po' pc' l[k] hfk (s2.keep0 hK)
      have HS2 : Hid (SibIn w vo' po' pc' l[k]) := s2
      have hd := HK.out
      rw [goS_drop hlt] at hd
      clear s1 s2 HK
      by_cases h1 : sCheck l[k] = 0
      case neg =>
        rw [oOne_bad h1, if_neg h1] at hd
        have e0 : (sCheck l[k] != 0) = true := by simpa using h1
        have HD : Hid (sCheck l[k] = r) := hd
        clear hd h1
        generalize sCheck l[k] = C at *
        generalize l[k] = X at *
        go_wp2_with fail
        refine yc.mono ?_
        rintro e w1 ⟨rfl, k1⟩
        have K1 := hK.trans k1
        clear yc k1 hK
        go_wp2
        go_ret
        exact ⟨by rw [← HD.out]; rfl, K1⟩
      have HQ2 : Hid (∀ q (_ : q < l.length), q < k + 1 → sCheck l[q] = 0) := by
        intro q hq hq2
        by_cases e : q = k
        · subst e; exact h1
        · exact HQ.out q hq (by omega)
      rw [h1] at yc
      cases k with
      | zero =>
        rw [pvk_zero, oOne_first h1, if_pos rfl] at hd
        have HD : Hid (oGo (pvk l (0 + 1)) (l.drop (0 + 1)) = r) := hd
        clear hd h1 HQ
        have a0 : wr.cell? ⟨b, off, none⟩ = some (.slice vo' l[0].k.c.length vc') := a0
        have a1 : wr.cell? ⟨b, off + 1, none⟩ = some (.bool l[0].k.d) := a1
        have a2 : wr.cell? ⟨b, off + 2, none⟩ = some (.string l[0].k.x.a) := a2
        have a3 : wr.cell? ⟨b, off + 3, none⟩ = some (.int .u64 (l[0].k.x.n : Int)) := a3
        have a4 : wr.cell? ⟨b, off + 4, none⟩ = some (.slice po' l[0].m.length pc') := a4
        have a5 : wr.cell? ⟨b, off + 5, none⟩ = some (.bool l[0].d) := a5
        have a6 : wr.cell? ⟨b, off + 6, none⟩ = some (.string l[0].v) := a6
        generalize l[0] = X at *
        go_wp2_with fail
        refine yc.mono ?_
        rintro e w1 ⟨rfl, k1⟩
        have K1 := hK.trans k1
        replace xk := k1.cell xk (fun f => f)
        clear yc k1 hK
        go_wp2_with fail
        refine wp_region_held_drew (S := (fun _ => True)) (by kernel_rfl) trivial (fun hHeld => ?_)
        refine wpAnyH_take (i := 0) (v := ?z0v) (by simp only [List.getElem?_toArray, List.getElem?_cons_zero] <;> rfl) (by kernel_rfl) (by kernel_rfl) (by kernel_rfl) (by exact fun _ _ _ h => h) (Or.inl ⟨by rfl, ?z0y⟩) hHeld ?z0r
        case z0y => intro w hSw; (try dsimp only at hSw); go_simp <;> rfl
        simp only [Act.put, List.setIfInBounds_toArray, List.set_cons_zero, List.set_cons_succ]
        refine wpAnyH_take (i := 1) (v := ?z1v) (by simp only [List.getElem?_toArray, List.getElem?_cons_succ, List.getElem?_cons_zero] <;> rfl) (by kernel_rfl) (by kernel_rfl) (by kernel_rfl) (by exact fun _ _ _ h => h) (Or.inl ⟨by rfl, ?z1y⟩) hHeld ?z1r
        case z1y => intro w hSw; (try dsimp only at hSw); go_simp <;> rfl
        simp only [Act.put, List.setIfInBounds_toArray, List.set_cons_zero, List.set_cons_succ]
        refine wpAnyH_take (i := 2) (v := ?z2v) (by simp only [List.getElem?_toArray, List.getElem?_cons_succ, List.getElem?_cons_zero] <;> rfl) (by kernel_rfl) (by kernel_rfl) (by kernel_rfl) (by exact fun _ _ _ h => h) (Or.inl ⟨by rfl, ?z2y⟩) hHeld ?z2r
        case z2y => intro w hSw; (try dsimp only at hSw); go_simp <;> rfl
        simp only [Act.put, List.setIfInBounds_toArray, List.set_cons_zero, List.set_cons_succ]
        refine wpAnyH_take (i := 3) (v := undef) (by simp only [List.getElem?_toArray, List.getElem?_cons_succ, List.getElem?_cons_zero] <;> rfl) (by kernel_rfl) (by kernel_rfl) (by kernel_rfl) (by exact fun _ _ _ h => h) (Or.inr ⟨by rfl, rfl⟩) hHeld ?z3r
        simp only [Act.put, List.setIfInBounds_toArray, List.set_cons_zero, List.set_cons_succ]
        refine wpAnyH_take (i := 4) (v := undef) (by simp only [List.getElem?_toArray, List.getElem?_cons_succ, List.getElem?_cons_zero] <;> rfl) (by kernel_rfl) (by kernel_rfl) (by kernel_rfl) (by exact fun _ _ _ h => h) (Or.inr ⟨by rfl, rfl⟩) hHeld ?z4r
        simp only [Act.put, List.setIfInBounds_toArray, List.set_cons_zero, List.set_cons_succ]
        refine wpAnyH_take (i := 5) (v := undef) (by simp only [List.getElem?_toArray, List.getElem?_cons_succ, List.getElem?_cons_zero] <;> rfl) (by kernel_rfl) (by kernel_rfl) (by kernel_rfl) (by exact fun _ _ _ h => h) (Or.inr ⟨by rfl, rfl⟩) hHeld ?z5r
        simp only [Act.put, List.setIfInBounds_toArray, List.set_cons_zero, List.set_cons_succ]
        refine wpAnyH_take (i := 6) (v := undef) (by simp only [List.getElem?_toArray, List.getElem?_cons_succ, List.getElem?_cons_zero] <;> rfl) (by kernel_rfl) (by kernel_rfl) (by kernel_rfl) (by exact fun _ _ _ h => h) (Or.inr ⟨by rfl, rfl⟩) hHeld ?z6r
        simp only [Act.put, List.setIfInBounds_toArray, List.set_cons_zero, List.set_cons_succ]
        refine wpAnyH_take (i := 7) (v := undef) (by simp only [List.getElem?_toArray, List.getElem?_cons_succ, List.getElem?_cons_zero] <;> rfl) (by kernel_rfl) (by kernel_rfl) (by kernel_rfl) (by exact fun _ _ _ h => h) (Or.inr ⟨by rfl, rfl⟩) hHeld ?z7r
        simp only [Act.put, List.setIfInBounds_toArray, List.set_cons_zero, List.set_cons_succ]
        refine wpAnyH_take (i := 8) (v := undef) (by simp only [List.getElem?_toArray, List.getElem?_cons_succ, List.getElem?_cons_zero] <;> rfl) (by kernel_rfl) (by kernel_rfl) (by kernel_rfl) (by exact fun _ _ _ h => h) (Or.inr ⟨by rfl, rfl⟩) hHeld ?z8r
        simp only [Act.put, List.setIfInBounds_toArray, List.set_cons_zero, List.set_cons_succ]
        refine wpAnyH_take (i := 10) (v := undef) (by simp only [List.getElem?_toArray, List.getElem?_cons_succ, List.getElem?_cons_zero] <;> rfl) (by kernel_rfl) (by kernel_rfl) (by kernel_rfl) (by exact fun _ _ _ h => h) (Or.inr ⟨by rfl, rfl⟩) hHeld ?z9r
        simp only [Act.put, List.setIfInBounds_toArray, List.set_cons_zero, List.set_cons_succ]
        refine wpAnyH_take (i := 11) (v := undef) (by simp only [List.getElem?_toArray, List.getElem?_cons_succ, List.getElem?_cons_zero] <;> rfl) (by kernel_rfl) (by kernel_rfl) (by kernel_rfl) (by exact fun _ _ _ h => h) (Or.inr ⟨by rfl, rfl⟩) hHeld ?z10r
        simp only [Act.put, List.setIfInBounds_toArray, List.set_cons_zero, List.set_cons_succ]
        refine wpAnyH_take (i := 12) (v := undef) (by simp only [List.getElem?_toArray, List.getElem?_cons_succ, List.getElem?_cons_zero] <;> rfl) (by kernel_rfl) (by kernel_rfl) (by kernel_rfl) (by exact fun _ _ _ h => h) (Or.inr ⟨by rfl, rfl⟩) hHeld ?z11r
        simp only [Act.put, List.setIfInBounds_toArray, List.set_cons_zero, List.set_cons_succ]
        refine wpAnyH_take (i := 13) (v := undef) (by simp only [List.getElem?_toArray, List.getElem?_cons_succ, List.getElem?_cons_zero] <;> rfl) (by kernel_rfl) (by kernel_rfl) (by kernel_rfl) (by exact fun _ _ _ h => h) (Or.inr ⟨by rfl, rfl⟩) hHeld ?z12r
        simp only [Act.put, List.setIfInBounds_toArray, List.set_cons_zero, List.set_cons_succ]
        refine wpAnyH_take (i := 14) (v := undef) (by simp only [List.getElem?_toArray, List.getElem?_cons_succ, List.getElem?_cons_zero] <;> rfl) (by kernel_rfl) (by kernel_rfl) (by kernel_rfl) (by exact fun _ _ _ h => h) (Or.inr ⟨by rfl, rfl⟩) hHeld ?z13r
        simp only [Act.put, List.setIfInBounds_toArray, List.set_cons_zero, List.set_cons_succ]
        refine wpAnyH_ready (rs := [9]) (by kernel_rfl) (by simp) ?_
        refine AllReadyH.cons (by simp only [List.getElem?_toArray, List.getElem?_cons_succ, List.getElem?_cons_zero] <;> rfl) (fun K hK => ?_) AllReadyH.nil
        go_simp
        refine hK.out _ _ hHeld (fun hHeld => ?_)
        clear hK K
        refine wpAnyH_ready (rs := [15]) (by kernel_rfl) (by simp) ?_
        refine AllReadyH.cons (by simp only [List.getElem?_toArray, List.getElem?_cons_succ, List.getElem?_cons_zero] <;> rfl) (fun K hK => ?_) AllReadyH.nil
        go_simp
        refine hK.out _ _ hHeld (fun hHeld => ?_)
        clear hK K
        refine wpAnyH_take (i := 16) (v := undef) (by simp only [List.getElem?_toArray, List.getElem?_cons_succ, List.getElem?_cons_zero] <;> rfl) (by kernel_rfl) (by kernel_rfl) (by kernel_rfl) (by exact fun _ _ _ h => h) (Or.inr ⟨by rfl, rfl⟩) hHeld ?z14r
        simp only [Act.put, List.setIfInBounds_toArray, List.set_cons_zero, List.set_cons_succ]
        refine wpAnyH_take (i := 17) (v := undef) (by simp only [List.getElem?_toArray, List.getElem?_cons_succ, List.getElem?_cons_zero] <;> rfl) (by kernel_rfl) (by kernel_rfl) (by kernel_rfl) (by exact fun _ _ _ h => h) (Or.inr ⟨by rfl, rfl⟩) hHeld ?z15r
        simp only [Act.put, List.setIfInBounds_toArray, List.set_cons_zero, List.set_cons_succ]
        refine wpAnyH_take (i := 18) (v := ?z16v) (by simp only [List.getElem?_toArray, List.getElem?_cons_succ, List.getElem?_cons_zero] <;> rfl) (by kernel_rfl) (by kernel_rfl) (by kernel_rfl) (by exact fun _ _ _ h => h) (Or.inl ⟨by rfl, ?z16y⟩) hHeld ?z16r
        case z16y => intro w hSw; (try dsimp only at hSw); go_simp <;> rfl
        simp only [Act.put, List.setIfInBounds_toArray, List.set_cons_zero, List.set_cons_succ]
        refine wpAnyH_done (by kernel_rfl) ?_ _
        clear hHeld
        have K2 := K1.drew
        have xk2 : w1.drew.cell? ⟨g, 1, none⟩ = some (.slice (some ⟨b, off, none⟩) l.length cap) := xk
        clear K1 xk
        generalize w1.drew = W9 at *
        go_wp2
        go_roundw
        case rel => exact ⟨0 + 1, by go_num, by omega, HD, HQ2, xk2, K2⟩
        case measure => simp [intOf]; omega
      | succ j =>
        have hjl : j < l.length := by omega
        obtain ⟨b_, off_, vo, vc, po, pc, e_, s3, s4⟩ := HC.out j hjl
        cases e_
        have hfj := HF.out _ (List.getElem_mem hjl)
        obtain ⟨cj, hcj⟩ := clock_ok hfj (HQ.out j hjl (by omega))
        obtain ⟨ck, hck⟩ := clock_ok hfk h1
        obtain ⟨b0, b1, b2, b3, b4, b5, b6⟩ := s3.keep0 hK
        have HS4 : Hid (SibIn w vo po pc l[j]) := s4
        have yj := fun W (K : Keep0 w W) => rclock16 W vo vc po pc l[j] hfj (HS4.out.keep0 K)
        have yk := fun W (K : Keep0 w W) => rclock16 W vo' vc' po' pc' l[j + 1] hfk (HS2.out.keep0 K)
        rw [cj] at yj
        rw [ck] at yk
        have yb := fun W => rbelow_any W (kb l[j]) (kb l[j + 1]) hcj hck
        have hbl : lBelow (kb l[j]).data.toList (kb l[j + 1]).data.toList = bl (kb l[j]) (kb l[j + 1]) := rfl
        rw [hbl] at yb
        rw [pvk_succ hjl] at hd
        have i7 : IntKind.i64.wrap (j : Int) = (j : Int) := by rw [IntKind.wrap_i64]; omega
        have i9 : (j : Int) < l.length := by omega
        have hQ : ∃ q : Nat, j + 1 = q := ⟨_, rfl⟩
        have HDt : Hid (bl (kb l[j]) (kb l[j + 1]) = true → oGo (pvk l (j + 1 + 1)) (l.drop (j + 1 + 1)) = r) := fun hb => by rw [oOne_up h1 hb, if_pos rfl] at hd; exact hd
        have HDf : Hid (bl (kb l[j]) (kb l[j + 1]) = false → 6 = r) := fun hb => by rw [oOne_down h1 hb, if_neg (by decide)] at hd; exact hd
        clear hd h1 HQ hbl cj ck hcj hck s3 s4 hfj hfk
        generalize bl (kb l[j]) (kb l[j + 1]) = BL at *
        generalize kb l[j] = KA at *
        generalize kb l[j + 1] = KB at *
        generalize l[j] = X at *
        generalize l[j + 1] = Y at *
        obtain ⟨k, hq⟩ := hQ
        have i6 : (k : Int) - 1 = (j : Int) := by omega
        have i8 : decide (0 < k) = true := decide_eq_true (by omega)
        have i8' : 0 < k := by omega
        rw [hq] at a0 a1 a2 a3 a4 a5 a6 j2 HDt HQ2 hlt ⊢
        clear hq
        go_wp2_with fail
        refine yc.mono ?_
        rintro e w1 ⟨rfl, k1⟩
        have K1 := hK.trans k1
        have yj := fun W (K : Keep0 w1 W) => yj W (K1.trans K)
        have yk := fun W (K : Keep0 w1 W) => yk W (K1.trans K)
        replace xk := k1.cell xk (fun f => f)
        replace b0 := k1.cell b0 (fun f => f)
        replace b1 := k1.cell b1 (fun f => f)
        replace b2 := k1.cell b2 (fun f => f)
        replace b3 := k1.cell b3 (fun f => f)
        replace b4 := k1.cell b4 (fun f => f)
        replace b5 := k1.cell b5 (fun f => f)
        replace b6 := k1.cell b6 (fun f => f)
        replace a0 := k1.cell a0 (fun f => f)
        replace a1 := k1.cell a1 (fun f => f)
        replace a2 := k1.cell a2 (fun f => f)
        replace a3 := k1.cell a3 (fun f => f)
        replace a4 := k1.cell a4 (fun f => f)
        replace a5 := k1.cell a5 (fun f => f)
        replace a6 := k1.cell a6 (fun f => f)
        clear yc k1 hK
        go_wp2_with fail
        have KD : Keep0 w1 w1.drew := (Keep.refl _ w1).drew
        have xk : w1.drew.cell? ⟨g, 1, none⟩ = some (.slice (some ⟨b, off, none⟩) l.length cap) := KD.cell xk (fun f => f)
        have b0 : w1.drew.cell? ⟨b, off + j * 7, none⟩ = some (.slice vo X.k.c.length vc) := KD.cell b0 (fun f => f)
        have b1 : w1.drew.cell? ⟨b, off + j * 7 + 1, none⟩ = some (.bool X.k.d) := KD.cell b1 (fun f => f)
        have b2 : w1.drew.cell? ⟨b, off + j * 7 + 2, none⟩ = some (.string X.k.x.a) := KD.cell b2 (fun f => f)
        have b3 : w1.drew.cell? ⟨b, off + j * 7 + 3, none⟩ = some (.int .u64 (X.k.x.n : Int)) := KD.cell b3 (fun f => f)
        have b4 : w1.drew.cell? ⟨b, off + j * 7 + 4, none⟩ = some (.slice po X.m.length pc) := KD.cell b4 (fun f => f)
        have b5 : w1.drew.cell? ⟨b, off + j * 7 + 5, none⟩ = some (.bool X.d) := KD.cell b5 (fun f => f)
        have b6 : w1.drew.cell? ⟨b, off + j * 7 + 6, none⟩ = some (.string X.v) := KD.cell b6 (fun f => f)
        have a0 : w1.drew.cell? ⟨b, off + k * 7, none⟩ = some (.slice vo' Y.k.c.length vc') := KD.cell a0 (fun f => f)
        have a1 : w1.drew.cell? ⟨b, off + k * 7 + 1, none⟩ = some (.bool Y.k.d) := KD.cell a1 (fun f => f)
        have a2 : w1.drew.cell? ⟨b, off + k * 7 + 2, none⟩ = some (.string Y.k.x.a) := KD.cell a2 (fun f => f)
        have a3 : w1.drew.cell? ⟨b, off + k * 7 + 3, none⟩ = some (.int .u64 (Y.k.x.n : Int)) := KD.cell a3 (fun f => f)
        have a4 : w1.drew.cell? ⟨b, off + k * 7 + 4, none⟩ = some (.slice po' Y.m.length pc') := KD.cell a4 (fun f => f)
        have a5 : w1.drew.cell? ⟨b, off + k * 7 + 5, none⟩ = some (.bool Y.d) := KD.cell a5 (fun f => f)
        have a6 : w1.drew.cell? ⟨b, off + k * 7 + 6, none⟩ = some (.string Y.v) := KD.cell a6 (fun f => f)
        have yj := fun W (K : Keep0 w1.drew W) => yj W (KD.trans K)
        have yk := fun W (K : Keep0 w1.drew W) => yk W (KD.trans K)
        refine wp_region_held_drew (S := (fun W => W.cell? ⟨g, 1, none⟩ = some (.slice (some ⟨b, off, none⟩) l.length cap) ∧ W.cell? ⟨b, off + j * 7, none⟩ = some (.slice vo X.k.c.length vc) ∧ W.cell? ⟨b, off + j * 7 + 1, none⟩ = some (.bool X.k.d) ∧ W.cell? ⟨b, off + j * 7 + 2, none⟩ = some (.string X.k.x.a) ∧ W.cell? ⟨b, off + j * 7 + 3, none⟩ = some (.int .u64 (X.k.x.n : Int)) ∧ W.cell? ⟨b, off + j * 7 + 4, none⟩ = some (.slice po X.m.length pc) ∧ W.cell? ⟨b, off + j * 7 + 5, none⟩ = some (.bool X.d) ∧ W.cell? ⟨b, off + j * 7 + 6, none⟩ = some (.string X.v) ∧ W.cell? ⟨b, off + k * 7, none⟩ = some (.slice vo' Y.k.c.length vc') ∧ W.cell? ⟨b, off + k * 7 + 1, none⟩ = some (.bool Y.k.d) ∧ W.cell? ⟨b, off + k * 7 + 2, none⟩ = some (.string Y.k.x.a) ∧ W.cell? ⟨b, off + k * 7 + 3, none⟩ = some (.int .u64 (Y.k.x.n : Int)) ∧ W.cell? ⟨b, off + k * 7 + 4, none⟩ = some (.slice po' Y.m.length pc') ∧ W.cell? ⟨b, off + k * 7 + 5, none⟩ = some (.bool Y.d) ∧ W.cell? ⟨b, off + k * 7 + 6, none⟩ = some (.string Y.v))) (by kernel_rfl) ⟨xk, b0, b1, b2, b3, b4, b5, b6, a0, a1, a2, a3, a4, a5, a6⟩ (fun hHeld => ?_)
        generalize w1.drew = WD at *
        refine wpAnyH_take (i := 0) (v := ?t0v) (by simp only [List.getElem?_toArray, List.getElem?_cons_zero] <;> rfl) (by kernel_rfl) (by kernel_rfl) (by kernel_rfl) (by exact fun _ _ _ h => h) (Or.inl ⟨by rfl, ?t0y⟩) hHeld ?t0r
        case t0y => intro w hSw; (try dsimp only at hSw); go_simp <;> rfl
        simp only [Act.put, List.setIfInBounds_toArray, List.set_cons_zero, List.set_cons_succ]
        refine wpAnyH_take (i := 1) (v := ?t1v) (by simp only [List.getElem?_toArray, List.getElem?_cons_succ, List.getElem?_cons_zero] <;> rfl) (by kernel_rfl) (by kernel_rfl) (by kernel_rfl) (by exact fun _ _ _ h => h) (Or.inl ⟨by rfl, ?t1y⟩) hHeld ?t1r
        case t1y => intro w hSw; (try dsimp only at hSw); go_simp <;> rfl
        simp only [Act.put, List.setIfInBounds_toArray, List.set_cons_zero, List.set_cons_succ]
        refine wpAnyH_take (i := 2) (v := ?t2v) (by simp only [List.getElem?_toArray, List.getElem?_cons_succ, List.getElem?_cons_zero] <;> rfl) (by kernel_rfl) (by kernel_rfl) (by kernel_rfl) (by exact fun _ _ _ h => h) (Or.inl ⟨by rfl, ?t2y⟩) hHeld ?t2r
        case t2y => intro w hSw; (try dsimp only at hSw); go_simp <;> rfl
        simp only [Act.put, List.setIfInBounds_toArray, List.set_cons_zero, List.set_cons_succ]
        refine wpAnyH_take (i := 3) (v := ?t3v) (by simp only [List.getElem?_toArray, List.getElem?_cons_succ, List.getElem?_cons_zero] <;> rfl) (by kernel_rfl) (by kernel_rfl) (by kernel_rfl) (by exact fun _ _ _ h => h) (Or.inl ⟨by rfl, ?t3y⟩) hHeld ?t3r
        case t3y => intro w hSw; (try dsimp only at hSw); go_simp <;> rfl
        simp only [Act.put, List.setIfInBounds_toArray, List.set_cons_zero, List.set_cons_succ]
        refine wpAnyH_take (i := 4) (v := ?t4v) (by simp only [List.getElem?_toArray, List.getElem?_cons_succ, List.getElem?_cons_zero] <;> rfl) (by kernel_rfl) (by kernel_rfl) (by kernel_rfl) (by exact fun _ _ _ h => h) (Or.inl ⟨by rfl, ?t4y⟩) hHeld ?t4r
        case t4y => intro w hSw; (try dsimp only at hSw); go_simp <;> rfl
        simp only [Act.put, List.setIfInBounds_toArray, List.set_cons_zero, List.set_cons_succ]
        refine wpAnyH_take (i := 5) (v := ?t5v) (by simp only [List.getElem?_toArray, List.getElem?_cons_succ, List.getElem?_cons_zero] <;> rfl) (by kernel_rfl) (by kernel_rfl) (by kernel_rfl) (by exact fun _ _ _ h => h) (Or.inl ⟨by rfl, ?t5y⟩) hHeld ?t5r
        case t5y => intro w hSw; (try dsimp only at hSw); go_simp <;> rfl
        simp only [Act.put, List.setIfInBounds_toArray, List.set_cons_zero, List.set_cons_succ]
        refine wpAnyH_take (i := 6) (v := ?t6v) (by simp only [List.getElem?_toArray, List.getElem?_cons_succ, List.getElem?_cons_zero] <;> rfl) (by kernel_rfl) (by kernel_rfl) (by kernel_rfl) (by exact fun _ _ _ h => h) (Or.inl ⟨by rfl, ?t6y⟩) hHeld ?t6r
        case t6y => intro w hSw; (try dsimp only at hSw); go_simp <;> rfl
        simp only [Act.put, List.setIfInBounds_toArray, List.set_cons_zero, List.set_cons_succ]
        refine wpAnyH_take (i := 7) (v := ?t7v) (by simp only [List.getElem?_toArray, List.getElem?_cons_succ, List.getElem?_cons_zero] <;> rfl) (by kernel_rfl) (by kernel_rfl) (by kernel_rfl) (by exact fun _ _ _ h => h) (Or.inl ⟨by rfl, ?t7y⟩) hHeld ?t7r
        case t7y => intro w hSw; (try dsimp only at hSw); go_simp <;> rfl
        simp only [Act.put, List.setIfInBounds_toArray, List.set_cons_zero, List.set_cons_succ]
        refine wpAnyH_take (i := 8) (v := ?t8v) (by simp only [List.getElem?_toArray, List.getElem?_cons_succ, List.getElem?_cons_zero] <;> rfl) (by kernel_rfl) (by kernel_rfl) (by kernel_rfl) (by exact fun _ _ _ h => h) (Or.inl ⟨by rfl, ?t8y⟩) hHeld ?t8r
        case t8y => intro w hSw; (try dsimp only at hSw); go_simp <;> rfl
        simp only [Act.put, List.setIfInBounds_toArray, List.set_cons_zero, List.set_cons_succ]
        refine wpAnyH_take (i := 10) (v := ?t9v) (by simp only [List.getElem?_toArray, List.getElem?_cons_succ, List.getElem?_cons_zero] <;> rfl) (by kernel_rfl) (by kernel_rfl) (by kernel_rfl) (by exact fun _ _ _ h => h) (Or.inl ⟨by rfl, ?t9y⟩) hHeld ?t9r
        case t9y => intro w hSw; (try dsimp only at hSw); go_simp <;> rfl
        simp only [Act.put, List.setIfInBounds_toArray, List.set_cons_zero, List.set_cons_succ]
        refine wpAnyH_take (i := 11) (v := ?t10v) (by simp only [List.getElem?_toArray, List.getElem?_cons_succ, List.getElem?_cons_zero] <;> rfl) (by kernel_rfl) (by kernel_rfl) (by kernel_rfl) (by exact fun _ _ _ h => h) (Or.inl ⟨by rfl, ?t10y⟩) hHeld ?t10r
        case t10y => intro w hSw; (try dsimp only at hSw); go_simp <;> rfl
        simp only [Act.put, List.setIfInBounds_toArray, List.set_cons_zero, List.set_cons_succ]
        refine wpAnyH_take (i := 12) (v := ?t11v) (by simp only [List.getElem?_toArray, List.getElem?_cons_succ, List.getElem?_cons_zero] <;> rfl) (by kernel_rfl) (by kernel_rfl) (by kernel_rfl) (by exact fun _ _ _ h => h) (Or.inl ⟨by rfl, ?t11y⟩) hHeld ?t11r
        case t11y => intro w hSw; (try dsimp only at hSw); go_simp <;> rfl
        simp only [Act.put, List.setIfInBounds_toArray, List.set_cons_zero, List.set_cons_succ]
        refine wpAnyH_take (i := 13) (v := ?t12v) (by simp only [List.getElem?_toArray, List.getElem?_cons_succ, List.getElem?_cons_zero] <;> rfl) (by kernel_rfl) (by kernel_rfl) (by kernel_rfl) (by exact fun _ _ _ h => h) (Or.inl ⟨by rfl, ?t12y⟩) hHeld ?t12r
        case t12y => intro w hSw; (try dsimp only at hSw); go_simp <;> rfl
        simp only [Act.put, List.setIfInBounds_toArray, List.set_cons_zero, List.set_cons_succ]
        refine wpAnyH_take (i := 14) (v := ?t13v) (by simp only [List.getElem?_toArray, List.getElem?_cons_succ, List.getElem?_cons_zero] <;> rfl) (by kernel_rfl) (by kernel_rfl) (by kernel_rfl) (by exact fun _ _ _ h => h) (Or.inl ⟨by rfl, ?t13y⟩) hHeld ?t13r
        case t13y => intro w hSw; (try dsimp only at hSw); go_simp <;> rfl
        simp only [Act.put, List.setIfInBounds_toArray, List.set_cons_zero, List.set_cons_succ]
        refine wpAnyH_ready (rs := [9]) (by kernel_rfl) (by simp) ?_
        refine AllReadyH.cons (by simp only [List.getElem?_toArray, List.getElem?_cons_succ, List.getElem?_cons_zero] <;> rfl) (fun K hK => ?_) AllReadyH.nil
        go_simp
        refine (yj WD (Keep.refl _ _)).mono ?_
        rintro e u1 ⟨rfl, k1⟩
        go_wp2_with fail
        refine hK.out _ _ ⟨k1.cell xk (fun f => f), k1.cell b0 (fun f => f), k1.cell b1 (fun f => f), k1.cell b2 (fun f => f), k1.cell b3 (fun f => f), k1.cell b4 (fun f => f), k1.cell b5 (fun f => f), k1.cell b6 (fun f => f), k1.cell a0 (fun f => f), k1.cell a1 (fun f => f), k1.cell a2 (fun f => f), k1.cell a3 (fun f => f), k1.cell a4 (fun f => f), k1.cell a5 (fun f => f), k1.cell a6 (fun f => f)⟩ (fun hHeld => ?_)
        clear hK K
        refine wpAnyH_ready (rs := [15]) (by kernel_rfl) (by simp) ?_
        refine AllReadyH.cons (by simp only [List.getElem?_toArray, List.getElem?_cons_succ, List.getElem?_cons_zero] <;> rfl) (fun K hK => ?_) AllReadyH.nil
        go_simp
        refine (yk u1 k1).mono ?_
        rintro e u2 ⟨rfl, k2x⟩
        have k2 := k1.trans k2x
        clear k2x
        go_wp2_with fail
        refine hK.out _ _ ⟨k2.cell xk (fun f => f), k2.cell b0 (fun f => f), k2.cell b1 (fun f => f), k2.cell b2 (fun f => f), k2.cell b3 (fun f => f), k2.cell b4 (fun f => f), k2.cell b5 (fun f => f), k2.cell b6 (fun f => f), k2.cell a0 (fun f => f), k2.cell a1 (fun f => f), k2.cell a2 (fun f => f), k2.cell a3 (fun f => f), k2.cell a4 (fun f => f), k2.cell a5 (fun f => f), k2.cell a6 (fun f => f)⟩ (fun hHeld => ?_)
        clear hK K
        refine wpAnyH_ready (rs := [16]) (by kernel_rfl) (by simp) ?_
        refine AllReadyH.cons (by simp only [List.getElem?_toArray, List.getElem?_cons_succ, List.getElem?_cons_zero] <;> rfl) (fun K hK => ?_) AllReadyH.nil
        go_simp
        refine (yb u2).mono ?_
        rintro e u3 ⟨rfl, hu3⟩
        have k3 := k2.trans (keepN hu3)
        clear hu3
        go_wp2_with fail
        refine hK.out _ _ ⟨k3.cell xk (fun f => f), k3.cell b0 (fun f => f), k3.cell b1 (fun f => f), k3.cell b2 (fun f => f), k3.cell b3 (fun f => f), k3.cell b4 (fun f => f), k3.cell b5 (fun f => f), k3.cell b6 (fun f => f), k3.cell a0 (fun f => f), k3.cell a1 (fun f => f), k3.cell a2 (fun f => f), k3.cell a3 (fun f => f), k3.cell a4 (fun f => f), k3.cell a5 (fun f => f), k3.cell a6 (fun f => f)⟩ (fun hHeld => ?_)
        clear hK K
        refine wpAnyH_take (i := 17) (v := ?t14v) (by simp only [List.getElem?_toArray, List.getElem?_cons_succ, List.getElem?_cons_zero] <;> rfl) (by kernel_rfl) (by kernel_rfl) (by kernel_rfl) (by exact fun _ _ _ h => h) (Or.inl ⟨by rfl, ?t14y⟩) hHeld ?t14r
        case t14y => intro w hSw; (try dsimp only at hSw); go_simp <;> rfl
        simp only [Act.put, List.setIfInBounds_toArray, List.set_cons_zero, List.set_cons_succ]
        refine wpAnyH_take (i := 18) (v := ?t15v) (by simp only [List.getElem?_toArray, List.getElem?_cons_succ, List.getElem?_cons_zero] <;> rfl) (by kernel_rfl) (by kernel_rfl) (by kernel_rfl) (by exact fun _ _ _ h => h) (Or.inl ⟨by rfl, ?t15y⟩) hHeld ?t15r
        case t15y => intro w hSw; (try dsimp only at hSw); go_simp <;> rfl
        simp only [Act.put, List.setIfInBounds_toArray, List.set_cons_zero, List.set_cons_succ]
        refine wpAnyH_done (by kernel_rfl) ?_ _
        clear hHeld
        have K9 := (K1.trans KD).trans k3
        have xk9 := k3.cell xk (fun f => f)
        clear KD k1 k2 k3 yj yk yb K1 xk b0 b1 b2 b3 b4 b5 b6 a0 a1 a2 a3 a4 a5 a6
        cases BL with
        | true =>
          have HD : Hid (oGo (pvk l (k + 1)) (l.drop (k + 1)) = r) := HDt.out rfl
          clear HDt HDf
          go_wp2
          go_roundw
          case rel => exact ⟨k + 1, by go_num, by omega, HD, HQ2, xk9, K9⟩
          case measure => simp [intOf]; omega
        | false =>
          have HD : Hid (6 = r) := HDf.out rfl
          clear HDt HDf
          go_wp2
          go_ret
          exact ⟨by rw [← HD.out]; rfl, K9⟩
    · have j2 : ¬ (k : Int) < l.length := by omega
      have hd := HK.out
      rw [List.drop_eq_nil_of_le (by omega)] at hd
      have HD : Hid (0 = r) := hd
      clear hd HK
      go_wp2
      go_ret
      exact ⟨by rw [← HD.out]; rfl, hK⟩
theorem rcheck16 (w : World) (ao : Option Addr) (cap : Nat) (o : Ob) (f : FitsO o) (hc : SibsAt w ao o.l) :
    Calls Tryz.prog 20 #[.agg #[.string o.key, .slice ao o.l.length cap]] w fun e w' => e = .returned (.int .i64 (oCheck o)) ∧ Keep0 w w' :=
  rcheck16_any w ao cap o.key o.l f.key f.len f.sib hc
end Go.Proofs.YtoefibkhlhmlfaaGreat
