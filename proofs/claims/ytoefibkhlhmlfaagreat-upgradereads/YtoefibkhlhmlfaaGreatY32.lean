/-
  What this seat's claims lean on of the texts ObjMem, RefObj2, Open16, RefSib4.
  Conditions: as each theorem states.
-/
import Derived.WalkKit
import Derived.ProofKit
import Derived.Below
import Derived.Deep.Draws
import Derived.Deep.RegionHeld
import Derived.Test.YtoefibkhlhmlfaaGreatChecked
import Derived.OpenShut
import Derived.ShutString
import Derived.WalkSpells
import Derived.WalkLawsBesides
import Derived.Deep.QuietTactic
import Derived.BigQuiet
import Derived.Laws.Bits64b
import Derived.PlainAid
import Derived.Lib.AppendStr
import Derived.Deep.AppendLies
import Derived.Laws.IdiomStrings
import Derived.Laws.BytesArg
import Derived.Deep.RegionWith
import Derived.Laws.AppendOwn
import Derived.Deep.DeepAppendWide
import Derived.Deep.Upon
import Derived.Maps.AppendAt
import Derived.Laws.Rows
import Derived.Deep.Slices
import Derived.Test.YtoefibkhlhmlfaaGreatY30
import Derived.Test.YtoefibkhlhmlfaaGreatY11
import Derived.Test.YtoefibkhlhmlfaaGreatY28
namespace Go.Proofs.YtoefibkhlhmlfaaGreat
open Go.RowKit
theorem retOb {fn : Func} {p : Tmp} (h : fn.results = #[.cell p 27]) (tmps : Array Value) (w : World) (g : Nat) {v0 v1 : Value}
    (hp : tmps.getD p undef = .pointer (some ⟨g, 0, none⟩)) (hg : DAt w g v0 v1) : (results fn tmps).run Tryz.prog w = .ok (.agg #[v0, v1]) w := by
  obtain ⟨ty, hk⟩ := hg.blk
  exact results_cell_row h tmps w g ty _ _ _ hp hk Tryz.underlying27 rfl (by kernel_rfl)
theorem retOb2 {fn : Func} {p u : Tmp} (h : fn.results = #[.cell p 27, .tmp u]) (tmps : Array Value) (w : World) (g : Nat) {v0 v1 : Value}
    (hp : tmps.getD p undef = .pointer (some ⟨g, 0, none⟩)) (hg : DAt w g v0 v1) : (results fn tmps).run Tryz.prog w = .ok (.tuple #[.agg #[v0, v1], tmps.getD u undef]) w := by
  obtain ⟨ty, hk⟩ := hg.blk
  have hp' : tmps[p]?.getD undef = .pointer (some ⟨g, 0, none⟩) := by simpa using hp
  have hl := run_loadVar_row w g ty 27 _ _ _ hk Tryz.underlying27 rfl (by kernel_rfl)
  simp [results, h, hp', asAddr, hl]
structure NewL (B : Nat) (w : World) (ao : Option Addr) (L : List Pl) : Prop where
  at_ : PlsAt w ao L
  own : ∀ g off m, ao = some ⟨g, off, m⟩ → B ≤ g
  vec : ∀ p ∈ L, ∀ g off m, p.vo = some ⟨g, off, m⟩ → B ≤ g
  prs : ∀ p ∈ L, ∀ g off m, p.po = some ⟨g, off, m⟩ → B ≤ g
theorem NewL.nil (B : Nat) (w : World) : NewL B w none [] := ⟨PlsAt.nil _ _, (fun _ _ _ e => by cases e), (fun _ h => by cases h), (fun _ h => by cases h)⟩
theorem NewL.keep {R : Nat → Prop} {B : Nat} {w w' : World} {ao : Option Addr} {L : List Pl} (h : NewL B w ao L) (K : Keep R w w') (hn : ∀ g, B ≤ g → ¬ R g) : NewL B w' ao L :=
  ⟨⟨h.at_.row.keep K (fun g off m e => hn g (h.own g off m e)), fun p hp => ⟨(h.at_.ins p hp).ens.keep K (fun g off m e => hn g (h.vec p hp g off m e)), (h.at_.ins p hp).prs.keep K (fun g off m e => hn g (h.prs p hp g off m e)), (h.at_.ins p hp).room⟩⟩, h.own, h.vec, h.prs⟩
def RTakeO (r : Ob × Int × Int) (s : ByteArray) (b : Nat) (w : World) (e : Ending) (w' : World) : Prop := ∃ ao cap L, e = .returned (.agg #[.string r.1.key, .slice ao r.1.l.length cap]) ∧ L.map Pl.x = r.1.l ∧ Cur w' b s r.2.1 r.2.2 ∧ NewL w.heap.size w' ao L ∧ (L.length ≤ cap ∧ cap ≤ maxLen) ∧ Keep1 b w w'
theorem RTakeO.bare {r : Ob × Int × Int} {s : ByteArray} {b : Nat} {w w' : World} {e : Ending} {A E : Int} (hr : r = (zOb, A, E)) (h : e = .returned (.agg #[.string ⟨#[]⟩, .slice none 0 0])) (h1 : Cur w' b s A E) (h4 : Keep1 b w w') : RTakeO r s b w e w' := by
  subst hr
  exact ⟨none, 0, [], h, rfl, h1, NewL.nil _ _, ⟨Nat.le_refl _, Nat.zero_le _⟩, h4⟩
theorem RTakeO.mk {r : Ob × Int × Int} {s : ByteArray} {b : Nat} {w w' : World} {e : Ending} {A E : Int} {K : ByteArray} {L : List Pl} {ao : Option Addr} {cap : Nat} (hr : r = (⟨K, L.map Pl.x⟩, A, E)) (h : e = .returned (.agg #[.string K, .slice ao L.length cap])) (h1 : Cur w' b s A E) (h2 : NewL w.heap.size w' ao L) (hcp : L.length ≤ cap ∧ cap ≤ maxLen) (h4 : Keep1 b w w') : RTakeO r s b w e w' := by
  subst hr
  exact ⟨ao, cap, L, by rw [h]; show _ = Ending.returned (.agg #[.string K, .slice ao (L.map Pl.x).length cap]); rw [List.length_map], rfl, h1, h2, hcp, h4⟩
def RObE (p : Ob × Int) (w : World) (e : Ending) (w' : World) : Prop := ∃ ao cap L, e = .returned (.tuple #[.agg #[.string p.1.key, .slice ao p.1.l.length cap], .int .i64 p.2]) ∧ L.map Pl.x = p.1.l ∧ NewL w.heap.size w' ao L ∧ (L.length ≤ cap ∧ cap ≤ maxLen) ∧ Keep0 w w'
theorem RObE.bare {p : Ob × Int} {w w' : World} {e : Ending} {E : Int} (hp : p = (zOb, E)) (h : e = .returned (.tuple #[.agg #[.string ⟨#[]⟩, .slice none 0 0], .int .i64 E])) (h3 : Keep0 w w') : RObE p w e w' := by
  subst hp
  exact ⟨none, 0, [], h, rfl, NewL.nil _ _, ⟨Nat.le_refl _, Nat.zero_le _⟩, h3⟩
end Go.Proofs.YtoefibkhlhmlfaaGreat
namespace Go.Proofs.YtoefibkhlhmlfaaGreat
open Go.RowKit
def lSame : List Sb → List Sb → Bool
  | [], [] => true
  | x :: l, y :: m => sSame x y && lSame l m
  | _, _ => false
theorem lSame_iff : ∀ {l m : List Sb}, lSame l m = true ↔ l = m
  | [], [] => ⟨fun _ => rfl, fun _ => rfl⟩
  | [], _ :: _ => ⟨(fun h => by cases h), (fun h => by cases h)⟩
  | _ :: _, [] => ⟨(fun h => by cases h), (fun h => by cases h)⟩
  | x :: l, y :: m => by
    rw [lSame, Bool.and_eq_true, sSame_iff, lSame_iff]
    constructor
    · rintro ⟨rfl, rfl⟩; rfl
    · intro h; cases h; exact ⟨rfl, rfl⟩
theorem lSame_len {l m : List Sb} (h : l.length ≠ m.length) : lSame l m = false := by
  cases hs : lSame l m with
  | false => rfl
  | true => exact absurd (by rw [lSame_iff.1 hs]) h
theorem lSame_drop {l m : List Sb} {k : Nat} (hk : k < l.length) (hm : k < m.length) : lSame (l.drop k) (m.drop k) = (sSame l[k] m[k] && lSame (l.drop (k + 1)) (m.drop (k + 1))) := by
  rw [List.drop_eq_getElem_cons hk, List.drop_eq_getElem_cons hm, lSame]
def oSame (o q : Ob) : Bool := decide (o.key = q.key) && lSame o.l q.l
theorem oSame_iff {o q : Ob} : oSame o q = true ↔ o = q := by
  obtain ⟨k, l⟩ := o
  obtain ⟨k', l'⟩ := q
  unfold oSame
  rw [Bool.and_eq_true, lSame_iff, decide_eq_true_eq]
  constructor
  · rintro ⟨h1, h2⟩
    have h1 : k = k' := h1
    have h2 : l = l' := h2
    subst h1 h2
    rfl
  · intro h
    cases h
    exact ⟨rfl, rfl⟩
set_option maxRecDepth 100000 in
set_option maxHeartbeats 8000000 in
theorem rsame16_any (w : World) (ao : Option Addr) (cap : Nat) (key : ByteArray) (l : List Sb) (ao' : Option Addr) (cap' : Nat) (key' : ByteArray) (m : List Sb) (hl : l.length ≤ maxLen) (hm : m.length ≤ maxLen) (hf : ∀ x ∈ l, FitsS x) (hf' : ∀ x ∈ m, FitsS x) (hc : SibsAt w ao l) (hc' : SibsAt w ao' m) :
    Calls Tryz.prog 13 #[.agg #[.string key, .slice ao l.length cap], .agg #[.string key', .slice ao' m.length cap']] w fun e w' => e = .returned (.bool (oSame ⟨key, l⟩ ⟨key', m⟩)) ∧ Keep0 w w' := by
  have i1 : (l.length : Int) ≤ 9223372036854775807 := by unfold maxLen at hl; omega
  have i2 : (m.length : Int) ≤ 9223372036854775807 := by unfold maxLen at hm; omega
  have k0 : Keep0 w (w.alloc (.cells #[.string key, .slice ao l.length cap] 27)) := (Keep.refl _ w).alloc _
  have kB : Keep0 (w.alloc (.cells #[.string key, .slice ao l.length cap] 27)) ((w.alloc (.cells #[.string key, .slice ao l.length cap] 27)).alloc (.cells #[.string key', .slice ao' m.length cap'] 27)) := (Keep.refl _ _).alloc _
  have kA := k0.trans kB
  have x0 : ((w.alloc (.cells #[.string key, .slice ao l.length cap] 27)).alloc (.cells #[.string key', .slice ao' m.length cap'] 27)).cell? ⟨w.heap.size, 0, none⟩ = some (.string key) := kB.cell (cell_alloc w _ rfl) (fun f => f)
  have x1 : ((w.alloc (.cells #[.string key, .slice ao l.length cap] 27)).alloc (.cells #[.string key', .slice ao' m.length cap'] 27)).cell? ⟨w.heap.size, 1, none⟩ = some (.slice ao l.length cap) := kB.cell (cell_alloc w _ rfl) (fun f => f)
  have z0 : ((w.alloc (.cells #[.string key, .slice ao l.length cap] 27)).alloc (.cells #[.string key', .slice ao' m.length cap'] 27)).cell? ⟨w.heap.size + 1, 0, none⟩ = some (.string key') := by
    have := cell_alloc (w.alloc (.cells #[.string key, .slice ao l.length cap] 27)) (c := #[.string key', .slice ao' m.length cap']) 27 (i := 0) rfl
    rw [World.size_alloc] at this
    exact this
  have z1 : ((w.alloc (.cells #[.string key, .slice ao l.length cap] 27)).alloc (.cells #[.string key', .slice ao' m.length cap'] 27)).cell? ⟨w.heap.size + 1, 1, none⟩ = some (.slice ao' m.length cap') := by
    have := cell_alloc (w.alloc (.cells #[.string key, .slice ao l.length cap] 27)) (c := #[.string key', .slice ao' m.length cap']) 27 (i := 1) rfl
    rw [World.size_alloc] at this
    exact this
  have hg : oSame ⟨key, l⟩ ⟨key', m⟩ = (decide (key = key') && lSame l m) := rfl
  rw [hg]
  clear hg k0 kB
  by_cases h1 : key = key'
  case neg =>
    rw [decide_eq_false h1, Bool.false_and]
    obtain ⟨e2, e3, e4⟩ := txt_ne h1
    have e5 : (key == key') = false := by rw [beq_toListBytes]; exact e2
    clear hc hc' hf hf'
    go_enter Tryz.func13, Tryz.ntmps13
    go_wp2_with fail
    generalize ((w.alloc (.cells #[.string key, .slice ao l.length cap] 27)).alloc (.cells #[.string key', .slice ao' m.length cap'] 27)) = W0 at *
    generalize w.heap.size = g at *
    go_wp2
    go_ret
    exact ⟨rfl, kA⟩
  subst h1
  rw [decide_eq_true rfl, Bool.true_and]
  by_cases h2 : l.length = m.length
  case neg =>
    rw [lSame_len h2]
    have j1 : ((l.length : Int) != (m.length : Int)) = true := bne_iff_ne.2 (by omega)
    have j2 : ¬ (l.length : Int) = (m.length : Int) := by omega
    clear hc hc' hf hf'
    go_enter Tryz.func13, Tryz.ntmps13
    go_wp2_with fail
    generalize ((w.alloc (.cells #[.string key, .slice ao l.length cap] 27)).alloc (.cells #[.string key, .slice ao' m.length cap'] 27)) = W0 at *
    generalize w.heap.size = g at *
    go_wp2
    go_ret
    exact ⟨rfl, kA⟩
  have HC : Hid (SibsAt w ao l) := hc
  have HC' : Hid (SibsAt w ao' m) := hc'
  have HF : Hid (∀ x ∈ l, FitsS x) := hf
  have HF' : Hid (∀ x ∈ m, FitsS x) := hf'
  have HL : Hid (l.length = m.length) := h2
  obtain ⟨r, hr⟩ : ∃ r, lSame l m = r := ⟨_, rfl⟩
  rw [hr]
  have HR : Hid (lSame (l.drop 0) (m.drop 0) = r) := by rw [List.drop_zero, List.drop_zero]; exact hr
  rw [← h2] at z1 ⊢
  rw [← h2] at x0 x1 z0 kA
  clear hc hc' hf hf' hr h2
  go_enter Tryz.func13, Tryz.ntmps13
  go_wp2_with fail
  generalize ((w.alloc (.cells #[.string key, .slice ao l.length cap] 27)).alloc (.cells #[.string key, .slice ao' l.length cap'] 27)) = W0 at *
  generalize w.heap.size = g at *
  go_loopw [5] (fun i wr => ∃ (k : Nat), i = .int .i64 (k : Int) ∧ k ≤ l.length ∧ Hid (lSame (l.drop k) (m.drop k) = r) ∧ wr.cell? ⟨g, 1, none⟩ = some (.slice ao l.length cap) ∧ wr.cell? ⟨g + 1, 1, none⟩ = some (.slice ao' l.length cap') ∧ Keep0 w wr) (fun i _ => l.length - (intOf i).toNat)
  case atStart => exact ⟨0, rfl, by omega, HR, x1, z1, kA⟩
  case round =>
    obtain ⟨k, rfl, hk, HK, xa, xb, hK⟩ := hrel
    clear HR x0 x1 z0 z1 kA
    by_cases hlt : k < l.length
    · have j2 : (k : Int) < l.length := by omega
      have hlm : k < m.length := by have := HL.out; omega
      obtain ⟨b, off, vo, vc, po, pc, rfl, s1, s2⟩ := HC.out k hlt
      obtain ⟨b', off', vo', vc', po', pc', rfl, t1, t2⟩ := HC'.out k hlm
      obtain ⟨a0, a1, a2, a3, a4, a5, a6⟩ := s1.keep0 hK
      obtain ⟨b0, b1, b2, b3, b4, b5, b6⟩ := t1.keep0 hK
      have ys := fun W (K : Keep0 wr W) => rsame15 W vo vc po pc l[k] vo' vc' po' pc' m[k] (HF.out _ (List.getElem_mem hlt)) (HF'.out _ (List.getElem_mem hlm)) (s2.keep0 (hK.trans K)) (t2.keep0 (hK.trans K))
      have hd := HK.out
      rw [lSame_drop hlt hlm] at hd
      clear s1 s2 t1 t2 HK
      have HDt : Hid (sSame l[k] m[k] = true → lSame (l.drop (k + 1)) (m.drop (k + 1)) = r) := fun hs => by rw [hs] at hd; rw [← hd]; rfl
      have HDf : Hid (sSame l[k] m[k] = false → false = r) := fun hs => by rw [hs] at hd; rw [← hd]; rfl
      clear hd
      generalize sSame l[k] m[k] = BS at *
      generalize l[k] = X at *
      generalize m[k] = Y at *
      go_wp2_with fail
      have KD : Keep0 wr wr.drew := (Keep.refl _ wr).drew
      have xa : wr.drew.cell? ⟨g, 1, none⟩ = some (.slice (some ⟨b, off, none⟩) l.length cap) := KD.cell xa (fun f => f)
      have xb : wr.drew.cell? ⟨g + 1, 1, none⟩ = some (.slice (some ⟨b', off', none⟩) l.length cap') := KD.cell xb (fun f => f)
      have a0 : wr.drew.cell? ⟨b, off + k * 7, none⟩ = some (.slice vo X.k.c.length vc) := KD.cell a0 (fun f => f)
      have a1 : wr.drew.cell? ⟨b, off + k * 7 + 1, none⟩ = some (.bool X.k.d) := KD.cell a1 (fun f => f)
      have a2 : wr.drew.cell? ⟨b, off + k * 7 + 2, none⟩ = some (.string X.k.x.a) := KD.cell a2 (fun f => f)
      have a3 : wr.drew.cell? ⟨b, off + k * 7 + 3, none⟩ = some (.int .u64 (X.k.x.n : Int)) := KD.cell a3 (fun f => f)
      have a4 : wr.drew.cell? ⟨b, off + k * 7 + 4, none⟩ = some (.slice po X.m.length pc) := KD.cell a4 (fun f => f)
      have a5 : wr.drew.cell? ⟨b, off + k * 7 + 5, none⟩ = some (.bool X.d) := KD.cell a5 (fun f => f)
      have a6 : wr.drew.cell? ⟨b, off + k * 7 + 6, none⟩ = some (.string X.v) := KD.cell a6 (fun f => f)
      have b0 : wr.drew.cell? ⟨b', off' + k * 7, none⟩ = some (.slice vo' Y.k.c.length vc') := KD.cell b0 (fun f => f)
      have b1 : wr.drew.cell? ⟨b', off' + k * 7 + 1, none⟩ = some (.bool Y.k.d) := KD.cell b1 (fun f => f)
      have b2 : wr.drew.cell? ⟨b', off' + k * 7 + 2, none⟩ = some (.string Y.k.x.a) := KD.cell b2 (fun f => f)
      have b3 : wr.drew.cell? ⟨b', off' + k * 7 + 3, none⟩ = some (.int .u64 (Y.k.x.n : Int)) := KD.cell b3 (fun f => f)
      have b4 : wr.drew.cell? ⟨b', off' + k * 7 + 4, none⟩ = some (.slice po' Y.m.length pc') := KD.cell b4 (fun f => f)
      have b5 : wr.drew.cell? ⟨b', off' + k * 7 + 5, none⟩ = some (.bool Y.d) := KD.cell b5 (fun f => f)
      have b6 : wr.drew.cell? ⟨b', off' + k * 7 + 6, none⟩ = some (.string Y.v) := KD.cell b6 (fun f => f)
      have ys := ys wr.drew KD
      refine wp_region_held_drew (S := (fun W => W.cell? ⟨g, 1, none⟩ = some (.slice (some ⟨b, off, none⟩) l.length cap) ∧ W.cell? ⟨g + 1, 1, none⟩ = some (.slice (some ⟨b', off', none⟩) l.length cap') ∧ W.cell? ⟨b, off + k * 7, none⟩ = some (.slice vo X.k.c.length vc) ∧ W.cell? ⟨b, off + k * 7 + 1, none⟩ = some (.bool X.k.d) ∧ W.cell? ⟨b, off + k * 7 + 2, none⟩ = some (.string X.k.x.a) ∧ W.cell? ⟨b, off + k * 7 + 3, none⟩ = some (.int .u64 (X.k.x.n : Int)) ∧ W.cell? ⟨b, off + k * 7 + 4, none⟩ = some (.slice po X.m.length pc) ∧ W.cell? ⟨b, off + k * 7 + 5, none⟩ = some (.bool X.d) ∧ W.cell? ⟨b, off + k * 7 + 6, none⟩ = some (.string X.v) ∧ W.cell? ⟨b', off' + k * 7, none⟩ = some (.slice vo' Y.k.c.length vc') ∧ W.cell? ⟨b', off' + k * 7 + 1, none⟩ = some (.bool Y.k.d) ∧ W.cell? ⟨b', off' + k * 7 + 2, none⟩ = some (.string Y.k.x.a) ∧ W.cell? ⟨b', off' + k * 7 + 3, none⟩ = some (.int .u64 (Y.k.x.n : Int)) ∧ W.cell? ⟨b', off' + k * 7 + 4, none⟩ = some (.slice po' Y.m.length pc') ∧ W.cell? ⟨b', off' + k * 7 + 5, none⟩ = some (.bool Y.d) ∧ W.cell? ⟨b', off' + k * 7 + 6, none⟩ = some (.string Y.v))) (by kernel_rfl) ⟨xa, xb, a0, a1, a2, a3, a4, a5, a6, b0, b1, b2, b3, b4, b5, b6⟩ (fun hHeld => ?_)
      generalize wr.drew = WD at *
      refine wpAnyH_take (i := 0) (v := ?t0v) (by simp only [List.getElem?_toArray, List.getElem?_cons_zero] <;> rfl) (by kernel_rfl) (by kernel_rfl) (by kernel_rfl) (by exact fun _ _ _ h => h) (Or.inl ⟨by rfl, ?t0y⟩) hHeld ?t0r
      case t0y => intro w hSw; (try dsimp only at hSw); go_simp <;> rfl
      simp only [Act.put, List.setIfInBounds_toArray, List.set_cons_zero, List.set_cons_succ]
      refine wpAnyH_take (i := 1) (v := ?t1v) (by simp only [List.getElem?_toArray, List.getElem?_cons_succ, List.getElem?_cons_zero] <;> rfl) (by kernel_rfl) (by kernel_rfl) (by kernel_rfl) (by exact fun _ _ _ h => h) (Or.inl ⟨by rfl, ?t1y⟩) hHeld ?t1r
      case t1y => intro w hSw; (try dsimp only at hSw); go_simp <;> rfl
      simp only [Act.put, List.setIfInBounds_toArray, List.set_cons_zero, List.set_cons_succ]
      refine wpAnyH_take (i := 2) (v := ?t2v) (by simp only [List.getElem?_toArray, List.getElem?_cons_succ, List.getElem?_cons_zero] <;> rfl) (by kernel_rfl) (by kernel_rfl) (by kernel_rfl) (by exact fun _ _ _ h => h) (Or.inl ⟨by rfl, ?t2y⟩) hHeld ?t2r
      case t2y => intro w hSw; (try dsimp only at hSw); go_simp <;> rfl
      simp only [Act.put, List.setIfInBounds_toArray, List.set_cons_zero, List.set_cons_succ]
      refine wpAnyH_take (i := 3) (v := ?t3v) (by simp only [List.getElem?_toArray, List.getElem?_cons_succ, List.getElem?_cons_zero] <;> rfl) (by kernel_rfl) (by kernel_rfl) (by kernel_rfl) (by exact fun _ _ _ h => h) (Or.inl ⟨by rfl, ?t3y⟩) hHeld ?t3r
      case t3y => intro w hSw; (try dsimp only at hSw); go_simp <;> rfl
      simp only [Act.put, List.setIfInBounds_toArray, List.set_cons_zero, List.set_cons_succ]
      refine wpAnyH_take (i := 4) (v := ?t4v) (by simp only [List.getElem?_toArray, List.getElem?_cons_succ, List.getElem?_cons_zero] <;> rfl) (by kernel_rfl) (by kernel_rfl) (by kernel_rfl) (by exact fun _ _ _ h => h) (Or.inl ⟨by rfl, ?t4y⟩) hHeld ?t4r
      case t4y => intro w hSw; (try dsimp only at hSw); go_simp <;> rfl
      simp only [Act.put, List.setIfInBounds_toArray, List.set_cons_zero, List.set_cons_succ]
      refine wpAnyH_take (i := 5) (v := ?t5v) (by simp only [List.getElem?_toArray, List.getElem?_cons_succ, List.getElem?_cons_zero] <;> rfl) (by kernel_rfl) (by kernel_rfl) (by kernel_rfl) (by exact fun _ _ _ h => h) (Or.inl ⟨by rfl, ?t5y⟩) hHeld ?t5r
      case t5y => intro w hSw; (try dsimp only at hSw); go_simp <;> rfl
      simp only [Act.put, List.setIfInBounds_toArray, List.set_cons_zero, List.set_cons_succ]
      refine wpAnyH_take (i := 6) (v := ?t6v) (by simp only [List.getElem?_toArray, List.getElem?_cons_succ, List.getElem?_cons_zero] <;> rfl) (by kernel_rfl) (by kernel_rfl) (by kernel_rfl) (by exact fun _ _ _ h => h) (Or.inl ⟨by rfl, ?t6y⟩) hHeld ?t6r
      case t6y => intro w hSw; (try dsimp only at hSw); go_simp <;> rfl
      simp only [Act.put, List.setIfInBounds_toArray, List.set_cons_zero, List.set_cons_succ]
      refine wpAnyH_take (i := 7) (v := ?t7v) (by simp only [List.getElem?_toArray, List.getElem?_cons_succ, List.getElem?_cons_zero] <;> rfl) (by kernel_rfl) (by kernel_rfl) (by kernel_rfl) (by exact fun _ _ _ h => h) (Or.inl ⟨by rfl, ?t7y⟩) hHeld ?t7r
      case t7y => intro w hSw; (try dsimp only at hSw); go_simp <;> rfl
      simp only [Act.put, List.setIfInBounds_toArray, List.set_cons_zero, List.set_cons_succ]
      refine wpAnyH_take (i := 8) (v := ?t8v) (by simp only [List.getElem?_toArray, List.getElem?_cons_succ, List.getElem?_cons_zero] <;> rfl) (by kernel_rfl) (by kernel_rfl) (by kernel_rfl) (by exact fun _ _ _ h => h) (Or.inl ⟨by rfl, ?t8y⟩) hHeld ?t8r
      case t8y => intro w hSw; (try dsimp only at hSw); go_simp <;> rfl
      simp only [Act.put, List.setIfInBounds_toArray, List.set_cons_zero, List.set_cons_succ]
      refine wpAnyH_take (i := 9) (v := ?t9v) (by simp only [List.getElem?_toArray, List.getElem?_cons_succ, List.getElem?_cons_zero] <;> rfl) (by kernel_rfl) (by kernel_rfl) (by kernel_rfl) (by exact fun _ _ _ h => h) (Or.inl ⟨by rfl, ?t9y⟩) hHeld ?t9r
      case t9y => intro w hSw; (try dsimp only at hSw); go_simp <;> rfl
      simp only [Act.put, List.setIfInBounds_toArray, List.set_cons_zero, List.set_cons_succ]
      refine wpAnyH_ready (rs := [10]) (by kernel_rfl) (by simp) ?_
      refine AllReadyH.cons (by simp only [List.getElem?_toArray, List.getElem?_cons_succ, List.getElem?_cons_zero] <;> rfl) (fun K hK => ?_) AllReadyH.nil
      go_simp
      refine ys.mono ?_
      rintro e w1 ⟨rfl, k1⟩
      go_wp2_with fail
      refine hK.out _ _ ⟨k1.cell xa (fun f => f), k1.cell xb (fun f => f), k1.cell a0 (fun f => f), k1.cell a1 (fun f => f), k1.cell a2 (fun f => f), k1.cell a3 (fun f => f), k1.cell a4 (fun f => f), k1.cell a5 (fun f => f), k1.cell a6 (fun f => f), k1.cell b0 (fun f => f), k1.cell b1 (fun f => f), k1.cell b2 (fun f => f), k1.cell b3 (fun f => f), k1.cell b4 (fun f => f), k1.cell b5 (fun f => f), k1.cell b6 (fun f => f)⟩ (fun hHeld => ?_)
      clear hK K
      refine wpAnyH_take (i := 11) (v := ?t10v) (by simp only [List.getElem?_toArray, List.getElem?_cons_succ, List.getElem?_cons_zero] <;> rfl) (by kernel_rfl) (by kernel_rfl) (by kernel_rfl) (by exact fun _ _ _ h => h) (Or.inl ⟨by rfl, ?t10y⟩) hHeld ?t10r
      case t10y => intro w hSw; (try dsimp only at hSw); go_simp <;> rfl
      simp only [Act.put, List.setIfInBounds_toArray, List.set_cons_zero, List.set_cons_succ]
      refine wpAnyH_done (by kernel_rfl) ?_ _
      clear hHeld
      have K1 := (hK.trans KD).trans k1
      have xa1 := k1.cell xa (fun f => f)
      have xb1 := k1.cell xb (fun f => f)
      clear KD k1 ys hK xa xb a0 a1 a2 a3 a4 a5 a6 b0 b1 b2 b3 b4 b5 b6
      cases BS with
      | false =>
        have HD : Hid (false = r) := HDf.out rfl
        clear HDt HDf
        go_wp2
        go_ret
        exact ⟨by rw [← HD.out]; rfl, K1⟩
      | true =>
        have HD : Hid (lSame (l.drop (k + 1)) (m.drop (k + 1)) = r) := HDt.out rfl
        clear HDt HDf
        go_wp2
        go_roundw
        case rel => exact ⟨k + 1, by go_num, by omega, HD, xa1, xb1, K1⟩
        case measure => simp [intOf]; omega
    · have j2 : ¬ (k : Int) < l.length := by omega
      have hd := HK.out
      rw [List.drop_eq_nil_of_le (by omega), List.drop_eq_nil_of_le (by have := HL.out; omega)] at hd
      have HD : Hid (true = r) := hd
      clear hd HK
      go_wp2
      go_ret
      exact ⟨by rw [← HD.out]; rfl, hK⟩
theorem rsame16 (w : World) (ao : Option Addr) (cap : Nat) (o : Ob) (ao' : Option Addr) (cap' : Nat) (q : Ob) (f : FitsO o) (f' : FitsO q) (hc : SibsAt w ao o.l) (hc' : SibsAt w ao' q.l) :
    Calls Tryz.prog 13 #[.agg #[.string o.key, .slice ao o.l.length cap], .agg #[.string q.key, .slice ao' q.l.length cap']] w fun e w' => e = .returned (.bool (oSame o q)) ∧ Keep0 w w' :=
  rsame16_any w ao cap o.key o.l ao' cap' q.key q.l f.len f'.len f.sib f'.sib hc hc'
end Go.Proofs.YtoefibkhlhmlfaaGreat
namespace Go.Proofs.YtoefibkhlhmlfaaGreat
open Go.RowKit Go.WideShapes Go.ChangeShapes
structure Obl (w : World) where
  ao : Option Addr
  cap : Nat
  o : Ob
  fits : FitsO o
  at_ : SibsAt w ao o.l
  room : o.l.length ≤ cap ∧ cap ≤ maxLen
def Obl.cs {w : World} (c : Obl w) : List Value := [.string c.o.key, .slice c.ao c.o.l.length c.cap]
end Go.Proofs.YtoefibkhlhmlfaaGreat
namespace Go.Proofs.YtoefibkhlhmlfaaGreat
open Go.RowKit
def RSibE (p : Sb × Int) (w : World) (e : Ending) (w' : World) : Prop := ∃ vo vc po pc, e = .returned (.tuple #[.agg #[.slice vo p.1.k.c.length vc, .bool p.1.k.d, .string p.1.k.x.a, .int .u64 (p.1.k.x.n : Int), .slice po p.1.m.length pc, .bool p.1.d, .string p.1.v], .int .i64 p.2]) ∧ SibIn w' vo po pc p.1 ∧ (∀ g off m, vo = some ⟨g, off, m⟩ → w.heap.size ≤ g) ∧ (∀ g off m, po = some ⟨g, off, m⟩ → w.heap.size ≤ g) ∧ Keep0 w w'
theorem RSibE.bare {p : Sb × Int} {w w' : World} {e : Ending} {E : Int} (hp : p = (zSb, E)) (h : e = .returned (.tuple #[.agg #[.slice none 0 0, .bool false, .string ⟨#[]⟩, .int .u64 0, .slice none 0 0, .bool false, .string ⟨#[]⟩], .int .i64 E])) (h3 : Keep0 w w') : RSibE p w e w' := by
  subst hp
  exact ⟨none, 0, none, 0, h, sibIn_zero _, (fun _ _ _ e => by cases e), (fun _ _ _ e => by cases e), h3⟩
theorem RSibE.mk {p : Sb × Int} {w w' : World} {e : Ending} {SS : Sb} {vo po : Option Addr} {vc pc : Nat} (hp : p = (SS, 0)) (h : e = .returned (.tuple #[.agg #[.slice vo SS.k.c.length vc, .bool SS.k.d, .string SS.k.x.a, .int .u64 (SS.k.x.n : Int), .slice po SS.m.length pc, .bool SS.d, .string SS.v], .int .i64 0])) (h1 : SibIn w' vo po pc SS) (h2 : ∀ g off m, vo = some ⟨g, off, m⟩ → w.heap.size ≤ g) (h2' : ∀ g off m, po = some ⟨g, off, m⟩ → w.heap.size ≤ g) (h3 : Keep0 w w') : RSibE p w e w' := by
  subst hp
  exact ⟨vo, vc, po, pc, h, h1, h2, h2', h3⟩
theorem SibIn.keep {R : Nat → Prop} {w w' : World} {vo po : Option Addr} {pc : Nat} {x : Sb} (h : SibIn w vo po pc x) (K : Keep R w w') (h1 : ApartE R vo) (h2 : ApartE R po) : SibIn w' vo po pc x := ⟨h.ens.keep K h1, h.prs.keep K h2, h.room⟩
end Go.Proofs.YtoefibkhlhmlfaaGreat
