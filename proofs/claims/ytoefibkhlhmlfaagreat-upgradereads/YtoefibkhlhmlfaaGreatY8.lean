/-
  What this seat's claims lean on of the texts Vcode, Dotted, Whole, Many, VecMem.
  Conditions: as each theorem states.
-/
import Derived.WalkKit
import Derived.ProofKit
import Derived.Below
import Derived.Deep.Draws
import Derived.Deep.RegionHeld
import Derived.Test.YtoefibkhlhmlfaaGreatChecked
import Derived.OpenShut
import Derived.ShutString
import Derived.WalkSpells
import Derived.WalkLawsBesides
import Derived.Deep.QuietTactic
import Derived.BigQuiet
import Derived.Laws.Bits64b
import Derived.PlainAid
import Derived.Lib.AppendStr
import Derived.Deep.AppendLies
import Derived.Laws.IdiomStrings
import Derived.Laws.BytesArg
import Derived.Deep.RegionWith
import Derived.Test.YtoefibkhlhmlfaaGreatY7
import Derived.Test.YtoefibkhlhmlfaaGreatY3
import Derived.Laws.AppendOwn
import Derived.Deep.DeepAppendWide
import Derived.Deep.Upon
namespace Go.Proofs.YtoefibkhlhmlfaaGreat
open Go.RowKit
def U64 (n : Nat) : Prop := n < 18446744073709551616
def aTest (p : Option ByteArray) (a : ByteArray) : Int := if a.size = 0 then 14 else if falls p a = true then 6 else 0
def nTest (n : Nat) : Int := if n = 0 then 7 else 0
def rActor (p : Option ByteArray) : Rdr ByteArray := rTest ⟨#[]⟩ (aTest p) (rBlob 32)
def rCnt : Rdr Nat := rTest 0 nTest rNum
def rEnt (p : Option ByteArray) : Rdr En := rMap (fun q : ByteArray × Nat => (⟨q.1, q.2⟩ : En)) (rSeq (⟨#[]⟩, 0) (rActor p) (fun _ => rCnt))
def eEnt (x : En) : ByteArray := bEncT x.a ++ vText x.n
theorem pMax32 : pMax 32 = 32 := rfl
theorem pMax64 : pMax 64 = 64 := rfl
theorem ent_ok {p : Option ByteArray} {x : En} : cOne p x = 0 ∧ U64 x.n ↔ ((x.a.size < 18446744073709551616 ∧ (x.a.size : Int) ≤ pMax 32) ∧ aTest p x.a = 0) ∧ (x.n < 18446744073709551616 ∧ nTest x.n = 0) := by
  rw [pMax32]
  constructor
  · rintro ⟨h, hn⟩
    obtain ⟨⟨h1, h2, h3⟩, h4⟩ := cOne_zero.1 h
    refine ⟨⟨⟨by omega, by omega⟩, ?_⟩, hn, ?_⟩
    · unfold aTest
      rw [if_neg (by omega)]
      cases p with
      | none => rfl
      | some q => rw [falls_some, h4 q rfl]; rfl
    · unfold nTest; rw [if_neg h3]
  · rintro ⟨⟨⟨_, h2⟩, h3⟩, hn, h4⟩
    refine ⟨cOne_zero.2 ⟨⟨?_, by omega, ?_⟩, fun q hq => ?_⟩, hn⟩
    · refine Nat.pos_of_ne_zero fun e => ?_
      unfold aTest at h3; rw [if_pos e] at h3; exact absurd h3 (by decide)
    · intro e; unfold nTest at h4; rw [if_pos e] at h4; exact absurd h4 (by decide)
    · subst hq
      cases hb : bl q x.a with
      | true => rfl
      | false =>
        unfold aTest at h3
        by_cases h0 : x.a.size = 0
        · rw [if_pos h0] at h3; exact absurd h3 (by decide)
        · rw [if_neg h0, falls_some, hb, if_pos (by decide)] at h3; exact absurd h3 (by decide)
theorem ent_codec (p : Option ByteArray) : Codec (rEnt p) (fun x => cOne p x = 0 ∧ U64 x.n) eEnt := by
  have c1 := (blob_codec 32).test ⟨#[]⟩ (aTest p)
  have c2 := num_codec.test 0 nTest
  have c := ((c1.seq (⟨#[]⟩, 0) (B := fun _ => rCnt) (okB := fun _ n => n < 18446744073709551616 ∧ nTest n = 0) (encB := fun _ n => vText n) (fun _ _ => c2)).map (fun q : ByteArray × Nat => (⟨q.1, q.2⟩ : En)) (fun x => (x.a, x.n)) (fun _ _ => rfl) (fun _ _ => rfl))
  exact c.weak (fun v => ent_ok) (fun _ _ => rfl)
def rEnts : Nat → Option ByteArray → Rdr (List En)
  | 0, _ => rNil []
  | n + 1, p => rMap (fun q : En × List En => q.1 :: q.2) (rSeq (⟨⟨#[]⟩, 0⟩, []) (rEnt p) (fun x => rEnts n (some x.a)))
def eEnts : List En → ByteArray
  | [] => ⟨#[]⟩
  | x :: l => eEnt x ++ eEnts l
def okEnts (n : Nat) (p : Option ByteArray) (l : List En) : Prop := l.length = n ∧ cGo p l = 0 ∧ ∀ x ∈ l, U64 x.n
def uncons (l : List En) : En × List En := match l with
  | [] => (⟨⟨#[]⟩, 0⟩, [])
  | x :: r => (x, r)
theorem ents_codec : ∀ (n : Nat) (p : Option ByteArray), Codec (rEnts n p) (okEnts n p) eEnts
  | 0, p => by
    refine (Codec.nil ([] : List En)).weak (fun v => ?_) (fun v hv => ?_)
    · exact ⟨fun h => List.eq_nil_of_length_eq_zero h.1, fun h => by subst h; exact ⟨rfl, rfl, fun x hx => by cases hx⟩⟩
    · rw [hv]; rfl
  | n + 1, p => by
    have c := ((ent_codec p).seq (⟨⟨#[]⟩, 0⟩, []) (B := fun x => rEnts n (some x.a)) (okB := fun x => okEnts n (some x.a)) (encB := fun _ => eEnts) (fun x _ => ents_codec n (some x.a)))
    have c2 := c.map (fun q : En × List En => q.1 :: q.2) uncons (fun _ _ => rfl) (fun u hu => by
      cases u with
      | nil =>
        have h := (cOne_zero.1 hu.1.1).1.1
        exact absurd h (by decide)
      | cons x r => rfl)
    refine c2.weak (fun v => ?_) (fun v hv => ?_)
    · cases v with
      | nil => exact ⟨fun h => absurd h.1 (by simp), fun h => absurd (cOne_zero.1 h.1.1).1.1 (by decide)⟩
      | cons x r =>
        show okEnts (n + 1) p (x :: r) ↔ (cOne p x = 0 ∧ U64 x.n) ∧ okEnts n (some x.a) r
        unfold okEnts
        rw [cGo, List.length_cons]
        constructor
        · rintro ⟨h1, h2, h3⟩
          by_cases h0 : cOne p x = 0
          · rw [if_pos h0] at h2
            exact ⟨⟨h0, h3 x List.mem_cons_self⟩, by omega, h2, fun y hy => h3 y (List.mem_cons_of_mem _ hy)⟩
          · rw [if_neg h0] at h2; exact absurd h2 h0
        · rintro ⟨⟨h0, hx⟩, h1, h2, h3⟩
          rw [if_pos h0]
          refine ⟨by omega, h2, fun y hy => ?_⟩
          rcases List.mem_cons.1 hy with rfl | hy
          · exact hx
          · exact h3 y hy
    · cases v with
      | nil => exact absurd (cOne_zero.1 hv.1.1).1.1 (by decide)
      | cons x r => rfl
def rVec : Rdr (List En) := rMap (fun q : Nat × List En => q.2) (rSeq (0, []) (rCount 64) (fun n => rEnts n none))
def eVec (v : List En) : ByteArray := vText v.length ++ eEnts v
def okVec (v : List En) : Prop := vCheck v = 0 ∧ ∀ x ∈ v, U64 x.n
theorem vec_codec : Codec rVec okVec eVec := by
  have c := (((count_codec 64).seq (0, []) (B := fun n => rEnts n none) (okB := fun n => okEnts n none) (encB := fun _ => eEnts) (fun n _ => ents_codec n none)).map (fun q : Nat × List En => q.2) (fun l => (l.length, l)) (fun v hv => by
    obtain ⟨n, l⟩ := v
    have h : l.length = n := hv.2.1
    rw [h]) (fun _ _ => rfl))
  refine c.weak (fun v => ?_) (fun _ _ => rfl)
  show okVec v ↔ (v.length < 18446744073709551616 ∧ (v.length : Int) ≤ pMax 64) ∧ okEnts v.length none v
  unfold okVec okEnts
  rw [pMax64]
  constructor
  · rintro ⟨h, hn⟩
    obtain ⟨h1, h2⟩ := (check_zero v).1 h
    refine ⟨⟨by omega, by omega⟩, rfl, (cGo_zero v none).2 ⟨h2, fun _ e => by cases e⟩, hn⟩
  · rintro ⟨⟨_, h1⟩, _, h2, hn⟩
    exact ⟨(check_zero v).2 ⟨by omega, ((cGo_zero v none).1 h2).1⟩, hn⟩
theorem eEnt_size {x : En} (h : x.a.size ≤ 32) (hn : U64 x.n) : (eEnt x).size ≤ 43 := by
  have h1 : (vEnc x.a.size).length ≤ 0 + 1 := vEnc_len_lt 0 x.a.size (by omega)
  have h2 := (vText_le hn).2
  unfold eEnt bEncT
  rw [ByteArray.size_append, ByteArray.size_append, vText_size]
  omega
theorem eEnts_size : ∀ {l : List En}, (∀ x ∈ l, x.a.size ≤ 32 ∧ U64 x.n) → (eEnts l).size ≤ 43 * l.length
  | [], _ => Nat.zero_le _
  | x :: l, h => by
    have h1 := eEnt_size (h x List.mem_cons_self).1 (h x List.mem_cons_self).2
    have h2 := eEnts_size (fun y hy => h y (List.mem_cons_of_mem _ hy))
    show (eEnt x ++ eEnts l).size ≤ _
    rw [ByteArray.size_append, List.length_cons]
    omega
theorem eVec_size {v : List En} (h : okVec v) : (eVec v).size ≤ 2753 := by
  obtain ⟨h1, h2⟩ := (check_zero v).1 h.1
  have h3 := eEnts_size (fun x hx => ⟨(h2.1 x hx).2.1, h.2 x hx⟩)
  have h4 : (vEnc v.length).length ≤ 0 + 1 := vEnc_len_lt 0 v.length (by omega)
  unfold eVec
  rw [ByteArray.size_append, vText_size]
  omega
def rX {α : Type} (d : α) (A : Rdr α) (s : ByteArray) (a x : Int) : α × Int × Int := if x = 0 then A s a else (d, a, x)
theorem rX_yes {α : Type} (d : α) (A : Rdr α) (s : ByteArray) (a : Int) : rX d A s a 0 = A s a := if_pos rfl
theorem rX_no {α : Type} {d : α} {A : Rdr α} {s : ByteArray} {a x : Int} (h : x ≠ 0) : rX d A s a x = (d, a, x) := if_neg h
def lift (O : List En) (r : List En × Int × Int) : List En × Int × Int := if r.2.2 = 0 then (O ++ r.1, r.2) else ([], r.2)
theorem ents_zero (p : Option ByteArray) (s : ByteArray) (a : Int) (O : List En) : lift O (rEnts 0 p s a) = (O, a, 0) := by
  show lift O ([], a, 0) = _
  unfold lift
  rw [if_pos rfl, List.append_nil]
theorem ents_bad {n : Nat} {p : Option ByteArray} {s : ByteArray} {a : Int} (O : List En) (h : (rEnt p s a).2.2 ≠ 0) : lift O (rEnts (n + 1) p s a) = ([], (rEnt p s a).2) := by
  have e : (rEnts (n + 1) p s a).2 = (rEnt p s a).2 := by
    show (rSeq (⟨⟨#[]⟩, 0⟩, []) (rEnt p) (fun x => rEnts n (some x.a)) s a).2 = _
    rw [rSeq_no h]
  unfold lift
  rw [if_neg (by rw [e]; exact h), e]
theorem ents_more {n : Nat} {p : Option ByteArray} {s : ByteArray} {a : Int} (O : List En) (h : (rEnt p s a).2.2 = 0) : lift O (rEnts (n + 1) p s a) = lift (O ++ [(rEnt p s a).1]) (rEnts n (some (rEnt p s a).1.a) s (rEnt p s a).2.1) := by
  by_cases h1 : (rEnts n (some (rEnt p s a).1.a) s (rEnt p s a).2.1).2.2 = 0
  · have e : rEnts (n + 1) p s a = ((rEnt p s a).1 :: (rEnts n (some (rEnt p s a).1.a) s (rEnt p s a).2.1).1, (rEnts n (some (rEnt p s a).1.a) s (rEnt p s a).2.1).2) := by
      show rMap (fun q : En × List En => q.1 :: q.2) (rSeq (⟨⟨#[]⟩, 0⟩, []) (rEnt p) (fun x => rEnts n (some x.a))) s a = _
      unfold rMap
      rw [rSeq_yes h h1]
    unfold lift
    rw [e, if_pos h1, if_pos h1, List.append_assoc]
    rfl
  · have e : (rEnts (n + 1) p s a).2 = (rEnts n (some (rEnt p s a).1.a) s (rEnt p s a).2.1).2 := by
      show (rSeq (⟨⟨#[]⟩, 0⟩, []) (rEnt p) (fun x => rEnts n (some x.a)) s a).2 = _
      rw [rSeq_mid h h1]
    unfold lift
    rw [e, if_neg h1, if_neg h1]
theorem ent_a {p : Option ByteArray} {s : ByteArray} {a : Int} (h : bErr s a 0 32 ≠ 0) : (rEnt p s a).2 = (bAt s a 0 32, bErr s a 0 32) := by
  have e : (rActor p s a).2 = (bAt s a 0 32, bErr s a 0 32) := by unfold rActor; rw [rTest_no (show (rBlob 32 s a).2.2 ≠ 0 from h)]; rfl
  show (rSeq (⟨#[]⟩, 0) (rActor p) (fun _ => rCnt) s a).2 = _
  rw [rSeq_no (by rw [e]; exact h), e]
theorem ent_b {p : Option ByteArray} {s : ByteArray} {a : Int} (h : bErr s a 0 32 = 0) (h1 : aTest p (bTxt s a 0 32) ≠ 0) : (rEnt p s a).2 = (bAt s a 0 32, aTest p (bTxt s a 0 32)) := by
  have e : (rActor p s a).2 = (bAt s a 0 32, aTest p (bTxt s a 0 32)) := by unfold rActor; rw [rTest_bad (show (rBlob 32 s a).2.2 = 0 from h) h1]; rfl
  show (rSeq (⟨#[]⟩, 0) (rActor p) (fun _ => rCnt) s a).2 = _
  rw [rSeq_no (by rw [e]; exact h1), e]
theorem actor_yes {p : Option ByteArray} {s : ByteArray} {a : Int} (h : bErr s a 0 32 = 0) (h1 : aTest p (bTxt s a 0 32) = 0) : rActor p s a = (bTxt s a 0 32, bAt s a 0 32, 0) := by
  unfold rActor
  rw [rTest_yes (show (rBlob 32 s a).2.2 = 0 from h) h1]
  show (bTxt s a 0 32, bAt s a 0 32, bErr s a 0 32) = _
  rw [h]
theorem ent_c {p : Option ByteArray} {s : ByteArray} {a : Int} (h : bErr s a 0 32 = 0) (h1 : aTest p (bTxt s a 0 32) = 0) (h2 : tErr s (bAt s a 0 32) 0 ≠ 0) : (rEnt p s a).2 = (tAt s (bAt s a 0 32) 0, tErr s (bAt s a 0 32) 0) := by
  have e := actor_yes h h1
  have e2 : (rCnt s (bAt s a 0 32)).2 = (tAt s (bAt s a 0 32) 0, tErr s (bAt s a 0 32) 0) := by unfold rCnt; rw [rTest_no (show (rNum s (bAt s a 0 32)).2.2 ≠ 0 from h2)]; rfl
  show (rSeq (⟨#[]⟩, 0) (rActor p) (fun _ => rCnt) s a).2 = _
  rw [rSeq_mid (by rw [e]) (by rw [e]; show (rCnt s (bAt s a 0 32)).2.2 ≠ 0; rw [e2]; exact h2), e]
  exact e2
theorem ent_d {p : Option ByteArray} {s : ByteArray} {a : Int} (h : bErr s a 0 32 = 0) (h1 : aTest p (bTxt s a 0 32) = 0) (h2 : tErr s (bAt s a 0 32) 0 = 0) (h3 : tNum s (bAt s a 0 32) 0 = 0) : (rEnt p s a).2 = (tAt s (bAt s a 0 32) 0, 7) := by
  have e := actor_yes h h1
  have h3' : nTest (rNum s (bAt s a 0 32)).1 = 7 := by show nTest (tNum s (bAt s a 0 32) 0).toNat = 7; rw [h3]; rfl
  have e2 : (rCnt s (bAt s a 0 32)).2 = (tAt s (bAt s a 0 32) 0, 7) := by unfold rCnt; rw [rTest_bad (show (rNum s (bAt s a 0 32)).2.2 = 0 from h2) (by rw [h3']; decide), h3']; rfl
  show (rSeq (⟨#[]⟩, 0) (rActor p) (fun _ => rCnt) s a).2 = _
  rw [rSeq_mid (by rw [e]) (by rw [e]; show (rCnt s (bAt s a 0 32)).2.2 ≠ 0; rw [e2]; show (7 : Int) ≠ 0; decide), e]
  exact e2
theorem ent_e {p : Option ByteArray} {s : ByteArray} {a : Int} (h : bErr s a 0 32 = 0) (h1 : aTest p (bTxt s a 0 32) = 0) (h2 : tErr s (bAt s a 0 32) 0 = 0) (h3 : tNum s (bAt s a 0 32) 0 ≠ 0) : rEnt p s a = (⟨bTxt s a 0 32, (tNum s (bAt s a 0 32) 0).toNat⟩, tAt s (bAt s a 0 32) 0, 0) := by
  have e := actor_yes h h1
  have hb := tNum_lt s (bAt s a 0 32) 0
  have h3' : nTest (rNum s (bAt s a 0 32)).1 = 0 := by show nTest (tNum s (bAt s a 0 32) 0).toNat = 0; unfold nTest; rw [if_neg (by omega)]
  have e2 : rCnt s (bAt s a 0 32) = ((tNum s (bAt s a 0 32) 0).toNat, tAt s (bAt s a 0 32) 0, 0) := by
    unfold rCnt
    rw [rTest_yes (show (rNum s (bAt s a 0 32)).2.2 = 0 from h2) h3']
    show (_, _, tErr s (bAt s a 0 32) 0) = _
    rw [h2]
  show rMap (fun q : ByteArray × Nat => (⟨q.1, q.2⟩ : En)) (rSeq (⟨#[]⟩, 0) (rActor p) (fun _ => rCnt)) s a = _
  unfold rMap
  rw [rSeq_yes (by rw [e]) (by rw [e]; show (rCnt s (bAt s a 0 32)).2.2 = 0; rw [e2]), e]
  show ((⟨bTxt s a 0 32, (rCnt s (bAt s a 0 32)).1⟩ : En), (rCnt s (bAt s a 0 32)).2) = _
  rw [e2]
theorem vec_a {s : ByteArray} {a : Int} (h : kErr s a 0 64 ≠ 0) : rVec s a = ([], tAt s a 0, kErr s a 0 64) := by
  show rMap (fun q : Nat × List En => q.2) (rSeq (0, []) (rCount 64) (fun n => rEnts n none)) s a = _
  unfold rMap
  rw [rSeq_no (show (rCount 64 s a).2.2 ≠ 0 from h)]
  rfl
theorem vec_b {s : ByteArray} {a : Int} (h : kErr s a 0 64 = 0) : rVec s a = lift [] (rEnts (kNum s a 0 64).toNat none s (tAt s a 0)) := by
  show rMap (fun q : Nat × List En => q.2) (rSeq (0, []) (rCount 64) (fun n => rEnts n none)) s a = _
  unfold rMap lift
  by_cases h1 : (rEnts (kNum s a 0 64).toNat none s (tAt s a 0)).2.2 = 0
  · rw [rSeq_yes (show (rCount 64 s a).2.2 = 0 from h) h1, if_pos h1]; rfl
  · rw [rSeq_mid (show (rCount 64 s a).2.2 = 0 from h) h1, if_neg h1]; rfl
end Go.Proofs.YtoefibkhlhmlfaaGreat
namespace Go.Proofs.YtoefibkhlhmlfaaGreat
open Go.RowKit
structure Ck where
  c : List En
  d : Bool
  x : En
def kDot (k : Ck) : Int :=
  if k.d = true then (if 32 < k.x.a.size then 3 else if k.x.a.size = 0 then 14 else if k.x.n = 0 then 7 else if k.x.n ≤ vCount k.c k.x.a then 15 else 0)
  else (if k.x.a.size = 0 ∧ k.x.n = 0 then 0 else 1)
def kCheck (k : Ck) : Int := if vCheck k.c = 0 then kDot k else vCheck k.c
structure Right (k : Ck) : Prop where
  vec : vCheck k.c = 0
  good : Good k.c
  plain : k.d = false → k.x.a.size = 0 ∧ k.x.n = 0
  dot : k.d = true → k.x.ok ∧ vCount k.c k.x.a < k.x.n
theorem dot_zero (k : Ck) : kDot k = 0 ↔ (k.d = false → k.x.a.size = 0 ∧ k.x.n = 0) ∧ (k.d = true → k.x.ok ∧ vCount k.c k.x.a < k.x.n) := by
  unfold kDot En.ok
  cases k.d with
  | false =>
    rw [if_neg (by decide)]
    constructor
    · intro h
      refine ⟨fun _ => ?_, (fun e => by cases e)⟩
      by_cases h0 : k.x.a.size = 0 ∧ k.x.n = 0
      · exact h0
      · rw [if_neg h0] at h; exact absurd h (by decide)
    · intro h
      rw [if_pos (h.1 rfl)]
  | true =>
    rw [if_pos rfl]
    constructor
    · intro h
      refine ⟨(fun e => by cases e), fun _ => ?_⟩
      by_cases h1 : 32 < k.x.a.size
      · rw [if_pos h1] at h; exact absurd h (by decide)
      rw [if_neg h1] at h
      by_cases h2 : k.x.a.size = 0
      · rw [if_pos h2] at h; exact absurd h (by decide)
      rw [if_neg h2] at h
      by_cases h3 : k.x.n = 0
      · rw [if_pos h3] at h; exact absurd h (by decide)
      rw [if_neg h3] at h
      by_cases h4 : k.x.n ≤ vCount k.c k.x.a
      · rw [if_pos h4] at h; exact absurd h (by decide)
      exact ⟨⟨by omega, by omega, h3⟩, by omega⟩
    · intro h
      obtain ⟨⟨h1, h2, h3⟩, h4⟩ := h.2 rfl
      rw [if_neg (by omega), if_neg (by omega), if_neg h3, if_neg (by omega)]
theorem right_iff (k : Ck) : kCheck k = 0 ↔ Right k := by
  unfold kCheck
  by_cases h : vCheck k.c = 0
  · rw [if_pos h, dot_zero]
    exact ⟨fun e => ⟨h, ((check_zero _).1 h).2, e.1, e.2⟩, fun e => ⟨e.plain, e.dot⟩⟩
  · rw [if_neg h]
    exact ⟨fun e => absurd e h, fun e => absurd e.vec h⟩
end Go.Proofs.YtoefibkhlhmlfaaGreat
namespace Go.Proofs.YtoefibkhlhmlfaaGreat
open Go.RowKit
def dec {α : Type} (z : α) (rd : Rdr α) (s : ByteArray) : α × Int := if cEnd s (rd s 0).2.1 (rd s 0).2.2 = 0 then ((rd s 0).1, 0) else (z, cEnd s (rd s 0).2.1 (rd s 0).2.2)
section
variable {α : Type} {z : α} {rd : Rdr α} {ok : α → Prop} {enc : α → ByteArray}
theorem Codec.dec_enc (c : Codec rd ok enc) {k : α} (h : ok k) : dec z rd (enc k) = (k, 0) := by
  have h1 := c.only h
  unfold dec
  rw [h1]
  have e : cEnd (enc k) ((enc k).size : Int) 0 = 0 := if_neg (by omega)
  show (if cEnd (enc k) ((enc k).size : Int) 0 = 0 then (k, (0 : Int)) else _) = _
  rw [if_pos e]
theorem Codec.dec_zero (c : Codec rd ok enc) {s : ByteArray} (h : (dec z rd s).2 = 0) : ok (dec z rd s).1 ∧ enc (dec z rd s).1 = s := by
  unfold dec at h ⊢
  by_cases h0 : cEnd s (rd s 0).2.1 (rd s 0).2.2 = 0
  · rw [if_pos h0]
    have hp := (c.place (s := s) (a := 0) (by decide) (by omega)).2
    unfold cEnd cFail at h0
    by_cases hl : (rd s 0).2.1 < s.size
    · rw [if_pos hl] at h0
      split at h0
      · exact absurd h0 (by decide)
      · rename_i hx; exact absurd h0 hx
    · rw [if_neg hl] at h0
      obtain ⟨h1, h2⟩ := c.all h0 (by omega)
      exact ⟨h1, h2.symm⟩
  · rw [if_neg h0] at h
    exact absurd h h0
theorem dec_no {s : ByteArray} (h : (dec z rd s).2 ≠ 0) : (dec z rd s).1 = z := by
  unfold dec at h ⊢
  split
  · rename_i h0; rw [if_pos h0] at h; exact absurd rfl h
  · rfl
end
structure Wr (W : Int → ByteArray × Int → ByteArray × Int) (e : ByteArray) : Prop where
  fit : ∀ {M : Int} {t : ByteArray}, (t.size : Int) + e.size ≤ M → W M (t, 0) = (t ++ e, 0)
  over : ∀ {M : Int} {t : ByteArray}, (t.size : Int) ≤ M → ¬ ((t.size : Int) + e.size ≤ M) → (W M (t, 0)).2 = 3
  err : ∀ {M : Int} {t : ByteArray} {x : Int}, x ≠ 0 → W M (t, x) = (t, x)
theorem Wr.one (s : ByteArray) : Wr (fun M p => pOne M p s) s where
  fit := fun h => pOne_yes h
  over := fun _ h => by rw [pOne_no h]
  err := fun h => pOne_err h
theorem Wr.nil : Wr (fun _ p => p) ⟨#[]⟩ where
  fit := fun {_ t} _ => by
    have e : t ++ (⟨#[]⟩ : ByteArray) = t := ByteArray.append_empty
    rw [e]
  over := fun {M t} h h1 => absurd (by have e : ((⟨#[]⟩ : ByteArray).size : Int) = 0 := rfl; rw [e]; omega) h1
  err := fun _ => rfl
theorem Wr.seq {A B : Int → ByteArray × Int → ByteArray × Int} {a b : ByteArray} (hA : Wr A a) (hB : Wr B b) : Wr (fun M p => B M (A M p)) (a ++ b) where
  fit := fun {M t} h => by
    rw [ByteArray.size_append] at h
    rw [hA.fit (by omega), hB.fit (by rw [ByteArray.size_append]; omega), ByteArray.append_assoc]
  over := fun {M t} h h1 => by
    rw [ByteArray.size_append] at h1
    by_cases h2 : (t.size : Int) + a.size ≤ M
    · rw [hA.fit h2]
      exact hB.over (by rw [ByteArray.size_append]; omega) (by rw [ByteArray.size_append]; omega)
    · have e := hA.over h h2
      have e2 : A M (t, 0) = ((A M (t, 0)).1, 3) := Prod.ext rfl e
      rw [e2, hB.err (by decide)]
  err := fun {M t x} h => by rw [hA.err h, hB.err h]
theorem Wr.eq {A : Int → ByteArray × Int → ByteArray × Int} {a b : ByteArray} (h : Wr A a) (e : a = b) : Wr A b := e ▸ h
theorem Wr.blob {m : Int} {s : ByteArray} (h : (s.size : Int) ≤ pMax m) : Wr (fun M p => wPut M m p s) (bEncT s) := by
  have c := (Wr.one (vText s.size)).seq (Wr.one s)
  refine ⟨fun h1 => ?_, fun h1 h2 => ?_, fun h1 => ?_⟩
  · rw [wPut_fit h]; exact c.fit h1
  · rw [wPut_fit h]; exact c.over h1 h2
  · exact wPut_err h1
end Go.Proofs.YtoefibkhlhmlfaaGreat
namespace Go.Proofs.YtoefibkhlhmlfaaGreat
open Go.RowKit
section
variable {α σ : Type}
def rMany (z : α) (rd : Rdr α) (tst : σ → α → Int) (nxt : σ → α → σ) : Nat → σ → Rdr (List α)
  | 0, _ => rNil []
  | n + 1, st => rMap (fun q : α × List α => q.1 :: q.2) (rSeq (z, []) (rTest z (tst st) rd) (fun x => rMany z rd tst nxt n (nxt st x)))
def mGo (tst : σ → α → Int) (nxt : σ → α → σ) : σ → List α → Int
  | _, [] => 0
  | st, x :: l => if tst st x = 0 then mGo tst nxt (nxt st x) l else tst st x
def eMany (enc : α → ByteArray) : List α → ByteArray
  | [] => ⟨#[]⟩
  | x :: l => enc x ++ eMany enc l
def okMany (ok : α → Prop) (tst : σ → α → Int) (nxt : σ → α → σ) (n : Nat) (st : σ) (l : List α) : Prop := l.length = n ∧ mGo tst nxt st l = 0 ∧ ∀ x ∈ l, ok x
def unconsM (bad : α) (l : List α) : α × List α := match l with
  | [] => (bad, [])
  | x :: r => (x, r)
variable {z bad : α} {rd : Rdr α} {tst : σ → α → Int} {nxt : σ → α → σ} {ok : α → Prop} {enc : α → ByteArray}
theorem many_codec (c : Codec rd ok enc) (hb : ¬ ok bad) : ∀ (n : Nat) (st : σ), Codec (rMany z rd tst nxt n st) (okMany ok tst nxt n st) (eMany enc)
  | 0, st => by
    refine (Codec.nil ([] : List α)).weak (fun v => ?_) (fun v hv => ?_)
    · exact ⟨fun h => List.eq_nil_of_length_eq_zero h.1, fun h => by subst h; exact ⟨rfl, rfl, fun x hx => by cases hx⟩⟩
    · rw [hv]; rfl
  | n + 1, st => by
    have c1 := ((c.test z (tst st)).seq (z, []) (B := fun x => rMany z rd tst nxt n (nxt st x)) (okB := fun x => okMany ok tst nxt n (nxt st x)) (encB := fun _ => eMany enc) (fun x _ => many_codec c hb n (nxt st x)))
    have c2 := c1.map (fun q : α × List α => q.1 :: q.2) (unconsM bad) (fun _ _ => rfl) (fun u hu => by
      cases u with
      | nil => exact absurd hu.1.1 hb
      | cons x r => rfl)
    refine c2.weak (fun v => ?_) (fun v hv => ?_)
    · cases v with
      | nil => exact ⟨fun h => absurd h.1 (by simp), fun h => absurd h.1.1 hb⟩
      | cons x r =>
        show okMany ok tst nxt (n + 1) st (x :: r) ↔ (ok x ∧ tst st x = 0) ∧ okMany ok tst nxt n (nxt st x) r
        unfold okMany
        rw [mGo, List.length_cons]
        constructor
        · rintro ⟨h1, h2, h3⟩
          by_cases h0 : tst st x = 0
          · rw [if_pos h0] at h2
            exact ⟨⟨h3 x List.mem_cons_self, h0⟩, by omega, h2, fun y hy => h3 y (List.mem_cons_of_mem _ hy)⟩
          · rw [if_neg h0] at h2; exact absurd h2 h0
        · rintro ⟨⟨h0, h00⟩, h1, h2, h3⟩
          rw [if_pos h00]
          refine ⟨by omega, h2, fun y hy => ?_⟩
          rcases List.mem_cons.1 hy with rfl | hy
          · exact h0
          · exact h3 y hy
    · cases v with
      | nil => exact absurd hv.1.1 hb
      | cons x r => rfl
def liftM (O : List α) (r : List α × Int × Int) : List α × Int × Int := if r.2.2 = 0 then (O ++ r.1, r.2) else ([], r.2)
variable {s : ByteArray} {a : Int}
theorem liftM_zero (st : σ) (O : List α) : liftM O (rMany z rd tst nxt 0 st s a) = (O, a, 0) := by
  show liftM O ([], a, 0) = _
  unfold liftM
  rw [if_pos rfl, List.append_nil]
theorem liftM_err {n : Nat} {st : σ} (O : List α) (h : (rd s a).2.2 ≠ 0) : liftM O (rMany z rd tst nxt (n + 1) st s a) = ([], (rd s a).2) := by
  have e : (rMany z rd tst nxt (n + 1) st s a).2 = (rd s a).2 := by
    show (rSeq (z, []) (rTest z (tst st) rd) (fun x => rMany z rd tst nxt n (nxt st x)) s a).2 = _
    rw [rSeq_no (by rw [rTest_no h]; exact h), rTest_no h]
  unfold liftM
  rw [if_neg (by rw [e]; exact h), e]
theorem liftM_bad {n : Nat} {st : σ} (O : List α) (h : (rd s a).2.2 = 0) (h1 : tst st (rd s a).1 ≠ 0) : liftM O (rMany z rd tst nxt (n + 1) st s a) = ([], (rd s a).2.1, tst st (rd s a).1) := by
  have e : (rMany z rd tst nxt (n + 1) st s a).2 = ((rd s a).2.1, tst st (rd s a).1) := by
    show (rSeq (z, []) (rTest z (tst st) rd) (fun x => rMany z rd tst nxt n (nxt st x)) s a).2 = _
    rw [rSeq_no (by rw [rTest_bad h h1]; exact h1), rTest_bad h h1]
  unfold liftM
  rw [if_neg (by rw [e]; exact h1), e]
theorem liftM_more {n : Nat} {st : σ} (O : List α) (h : (rd s a).2.2 = 0) (h1 : tst st (rd s a).1 = 0) : liftM O (rMany z rd tst nxt (n + 1) st s a) = liftM (O ++ [(rd s a).1]) (rMany z rd tst nxt n (nxt st (rd s a).1) s (rd s a).2.1) := by
  have ht : rTest z (tst st) rd s a = rd s a := rTest_yes h h1
  by_cases h2 : (rMany z rd tst nxt n (nxt st (rd s a).1) s (rd s a).2.1).2.2 = 0
  · have e : rMany z rd tst nxt (n + 1) st s a = ((rd s a).1 :: (rMany z rd tst nxt n (nxt st (rd s a).1) s (rd s a).2.1).1, (rMany z rd tst nxt n (nxt st (rd s a).1) s (rd s a).2.1).2) := by
      show rMap (fun q : α × List α => q.1 :: q.2) (rSeq (z, []) (rTest z (tst st) rd) (fun x => rMany z rd tst nxt n (nxt st x))) s a = _
      unfold rMap
      rw [rSeq_yes (by rw [ht]; exact h) (by rw [ht]; exact h2), ht]
    unfold liftM
    rw [e, if_pos h2, if_pos h2, List.append_assoc]
    rfl
  · have e : (rMany z rd tst nxt (n + 1) st s a).2 = (rMany z rd tst nxt n (nxt st (rd s a).1) s (rd s a).2.1).2 := by
      show (rSeq (z, []) (rTest z (tst st) rd) (fun x => rMany z rd tst nxt n (nxt st x)) s a).2 = _
      rw [rSeq_mid (by rw [ht]; exact h) (by rw [ht]; exact h2), ht]
    unfold liftM
    rw [e, if_neg h2, if_neg h2]
def mSt (nxt : σ → α → σ) (st : σ) (l : List α) : σ := l.foldl nxt st
theorem mSt_app (st : σ) (l : List α) (x : α) : mSt nxt st (l ++ [x]) = nxt (mSt nxt st l) x := by
  unfold mSt
  rw [List.foldl_append]
  rfl
theorem mGo_drop {st : σ} {l : List α} {k : Nat} (h : k < l.length) : mGo tst nxt (mSt nxt st (l.take k)) (l.drop k) = if tst (mSt nxt st (l.take k)) l[k] = 0 then mGo tst nxt (mSt nxt st (l.take (k + 1))) (l.drop (k + 1)) else tst (mSt nxt st (l.take k)) l[k] := by
  have e : l.take (k + 1) = l.take k ++ [l[k]] := by rw [List.take_add_one, List.getElem?_eq_getElem h]; rfl
  rw [List.drop_eq_getElem_cons h, mGo, e, mSt_app]
end
end Go.Proofs.YtoefibkhlhmlfaaGreat
namespace Go.Proofs.YtoefibkhlhmlfaaGreat
open Go.RowKit
def En.cells (x : En) : List Value := [.string x.a, .int .u64 (x.n : Int)]
def En.val (x : En) : Value := .agg #[.string x.a, .int .u64 (x.n : Int)]
def EnsAt (w : World) (ao : Option Addr) (l : List En) : Prop := ∀ i (_ : i < l.length), ∃ b off, ao = some ⟨b, off, none⟩ ∧
  w.cell? ⟨b, off + i * 2, none⟩ = some (.string l[i].a) ∧ w.cell? ⟨b, off + i * 2 + 1, none⟩ = some (.int .u64 (l[i].n : Int))
def ApartE (R : Nat → Prop) (ao : Option Addr) : Prop := ∀ b off m, ao = some ⟨b, off, m⟩ → ¬ R b
theorem EnsAt.keep {R : Nat → Prop} {w w' : World} {ao : Option Addr} {l : List En} (h : EnsAt w ao l) (K : Keep R w w') (hn : ApartE R ao) : EnsAt w' ao l := by
  intro i hi
  obtain ⟨b, off, e, h1, h2⟩ := h i hi
  have hb := hn _ _ _ e
  exact ⟨b, off, e, K.cell h1 hb, K.cell h2 hb⟩
theorem EnsAt.keep0 {w w' : World} {ao : Option Addr} {l : List En} (h : EnsAt w ao l) (K : Keep0 w w') : EnsAt w' ao l := h.keep K (fun _ _ _ _ f => f)
theorem ens_nil (w : World) (ao : Option Addr) : EnsAt w ao [] := fun i hi => absurd hi (Nat.not_lt_zero i)
def enCells (l : List En) : List Value := l.flatMap En.cells
theorem enCells_len (l : List En) : (enCells l).length = l.length * 2 := by
  induction l with
  | nil => rfl
  | cons f l ih =>
    show (f.cells ++ enCells l).length = _
    rw [List.length_append, ih, List.length_cons]
    show 2 + _ = _
    omega
theorem enCells_app (l r : List En) : enCells (l ++ r) = enCells l ++ enCells r := List.flatMap_append
theorem enCells_get : ∀ (l : List En) (i : Nat) (hi : i < l.length) (j : Nat), j < 2 → (enCells l)[i * 2 + j]? = l[i].cells[j]?
  | f :: l, 0, _, j, hj => by
    show (f.cells ++ enCells l)[0 * 2 + j]? = f.cells[j]?
    rw [Nat.zero_mul, Nat.zero_add, List.getElem?_append_left (by show j < 2; exact hj)]
  | f :: l, i + 1, hi, j, hj => by
    have hi' : i < l.length := by simpa using hi
    have ih := enCells_get l i hi' j hj
    show (f.cells ++ enCells l)[(i + 1) * 2 + j]? = l[i].cells[j]?
    have e : f.cells.length = 2 := rfl
    rw [List.getElem?_append_right (by rw [e]; omega), e, show (i + 1) * 2 + j - 2 = i * 2 + j from by omega, ih]
theorem enCells_one (l : List En) : ∀ u ∈ enCells l, u.oneCell' = true := by
  intro u hu
  unfold enCells at hu
  obtain ⟨f, _, hf⟩ := List.mem_flatMap.1 hu
  simp only [En.cells, List.mem_cons, List.mem_nil_iff, or_false] at hf
  rcases hf with rfl | rfl <;> rfl
theorem ens_of_row {w : World} {B : Nat} {e : TypeId} {v : Value} {n : Nat} {l : List En} (h : w.ownsRow B e 2 v n (enCells l)) :
    ∃ ao cap, v = .slice ao l.length cap ∧ EnsAt w ao l ∧ (∀ b off m, ao = some ⟨b, off, m⟩ → B ≤ b) ∧ l.length ≤ cap := by
  have hn : n = l.length := by have := h.1; rw [enCells_len] at this; omega
  subst hn
  rcases h.2 with ⟨rfl, h0⟩ | ⟨g, cap, cur, rfl, hb, hg, hcap, hrest⟩
  · exact ⟨none, 0, by rw [h0], fun i hi => by omega, (fun b off m e => by cases e), by omega⟩
  · refine ⟨some ⟨g, 0, none⟩, cap, rfl, fun i hi => ⟨g, 0, rfl, ?_⟩, (fun b off m e => by cases e; exact hb), hcap⟩
    have hc := h.cells (g := g) rfl
    have k : ∀ j u, j < 2 → l[i].cells[j]? = some u → w.cell? ⟨g, 0 + i * 2 + j, none⟩ = some u := by
      intro j u hj hu
      have := hc (i * 2 + j) u ((enCells_get l i hi j hj).trans hu)
      rwa [add_plain, ← Nat.add_assoc] at this
    exact ⟨k 0 _ (by decide) rfl, k 1 _ (by decide) rfl⟩
theorem ens_cells {w : World} {ao : Option Addr} {l : List En} (h : EnsAt w ao l) (hne : 0 < l.length) : ∃ b off, ao = some ⟨b, off, none⟩ ∧ ∀ j u, (enCells l)[j]? = some u → w.cell? ((⟨b, off, none⟩ : Addr).add j) = some u := by
  obtain ⟨b, off, rfl, _⟩ := h 0 hne
  refine ⟨b, off, rfl, fun j u hu => ?_⟩
  have hj : j < (enCells l).length := (List.getElem?_eq_some_iff.1 hu).1
  rw [enCells_len] at hj
  have hi : j / 2 < l.length := by omega
  have hr : j % 2 < 2 := Nat.mod_lt _ (by decide)
  have ej : j / 2 * 2 + j % 2 = j := by omega
  obtain ⟨b', off', e, h0, h1⟩ := h (j / 2) hi
  cases e
  have hu' := enCells_get l (j / 2) hi (j % 2) hr
  rw [ej, hu] at hu'
  rw [add_plain]
  have hc : j % 2 = 0 ∨ j % 2 = 1 := by omega
  rcases hc with hc | hc
  · rw [hc] at hu'
    have : u = .string l[j / 2].a := by simpa [En.cells] using hu'
    rw [this, ← h0]
    congr 2
    omega
  · rw [hc] at hu'
    have : u = .int .u64 (l[j / 2].n : Int) := by simpa [En.cells] using hu'
    rw [this, ← h1]
    congr 2
    omega
theorem entry_info : (Tryz.prog.info? 53).map (fun i => (i.zero, i.size, i.bytes)) = some (some (.agg #[.string ⟨#[]⟩, .int .u64 0]), 2, 24) := by kernel_rfl
theorem run_append_ens {w : World} {B : Nat} {v : Value} {l m : List En} {ao : Option Addr} {c : Nat} (ty : TypeId) (ho : w.ownsRow B 53 2 v l.length (enCells l)) (hs : EnsAt w ao m) (hB : B ≤ w.heap.size) (hlen : l.length + m.length ≤ 1000000) :
    ∃ v' w', (Builtin.append_ #[54, 54] ty #[v, .slice ao m.length c]).run Tryz.prog w = .ok v' w' ∧ w'.ownsRow B 53 2 v' (l ++ m).length (enCells (l ++ m)) ∧ w.grownBy w' v.ownBlock := by
  obtain ⟨i0, hi, z0, z1, z2⟩ := info_parts entry_info
  have big : ∀ a, (∀ j u, (enCells m)[j]? = some u → w.cell? (Addr.add a j) = some u) → ∃ v' w', (Builtin.append_ #[54, 54] ty #[v, .slice (some a) m.length c]).run Tryz.prog w = .ok v' w' ∧ w'.ownsRow B 53 2 v' (l ++ m).length (enCells (l ++ m)) ∧ w.grownBy w' v.ownBlock := by
    intro a ha
    obtain ⟨v', w', h1, h2, h3, _⟩ := run_append_own_wide (P := Tryz.prog) w B 54 ty 53 i0 _ 2 24 Tryz.underlying54 hi z0 z1 z2 rfl (by decide) v l.length (enCells l) ho a m.length c (enCells m) (enCells_len m) ha (enCells_one m) (by unfold maxLen; omega) (by omega) hB
    exact ⟨v', w', h1, by rw [enCells_app, List.length_append]; exact h2, h3⟩
  by_cases hm : 0 < m.length
  · obtain ⟨b, off, rfl, hc⟩ := ens_cells hs hm
    exact big _ hc
  · have hm' : m = [] := List.eq_nil_of_length_eq_zero (by omega)
    subst hm'
    cases ao with
    | some a => exact big a (fun j u hu => by cases hu)
    | none =>
      have hsrc : Src Tryz.prog i0.size 54 (.slice none 0 c) 0 [] w := Src.ofNil w Tryz.underlying54 c
      have hv : ∃ base n cap, v = .slice base n cap ∧ n ≤ cap := by
        rcases ho.2 with ⟨e, _⟩ | ⟨g, cp, cur, e, _, _, hc, _⟩
        · exact ⟨_, _, _, e, Nat.le_refl _⟩
        · exact ⟨_, _, _, e, hc⟩
      obtain ⟨base, n, cap, rfl, hle⟩ := hv
      refine ⟨_, w, run_append_nothing w 54 54 ty 53 i0 Tryz.underlying54 hi base n cap hle _ hsrc, ?_, ⟨rfl, rfl, rfl, Nat.le_refl _, fun _ _ _ => rfl⟩⟩
      rw [List.append_nil]
      exact ho
theorem wpList_append_ens {w : World} {ops : Array Oper} {rest : List Oper} {o : Oper} {a : Act} {Q : Exit → Act → World → Prop} (hgd : o.guard = none) (s x : Operand)
    (ho : o.op = .call { callee := .builtin .append, args := #[s, x], argTypes := #[54, 54] }) {B : Nat} {v : Value} {l m : List En} {ao : Option Addr} {c : Nat}
    (hs : a.eval s = v) (hx : a.eval x = .slice ao m.length c) (hown : w.ownsRow B 53 2 v l.length (enCells l)) (hsrc : EnsAt w ao m) (hB : B ≤ w.heap.size) (hlen : l.length + m.length ≤ 1000000)
    (h : ∀ v' w', w'.ownsRow B 53 2 v' (l ++ m).length (enCells (l ++ m)) → w.grownBy w' v.ownBlock → wpList Tryz.prog ops Q rest (a.put o.dst v') w') : wpList Tryz.prog ops Q (o :: rest) a w :=
  wpList_plain hgd fun _ hK => by
    obtain ⟨v', w', hr, h2, h3⟩ := run_append_ens (c := c) o.type hown hsrc hB hlen
    unfold Oper.wp execOp
    simp only [ho, resolve, invoke, builtin, Sem.run_bind, Sem.run_pure, Result.andThen_ok, List.map_toArray, List.map_cons, List.map_nil, hs, hx, hr]
    exact hK _ _ (h v' w' h2 h3)
theorem en_new (w : World) (t : TypeId) (x : En) : EnsAt (w.alloc (.cells #[.string x.a, .int .u64 (x.n : Int)] t)) (some ⟨w.heap.size, 0, none⟩) [x] := by
  intro i hi
  obtain rfl : i = 0 := by simpa using hi
  exact ⟨w.heap.size, 0, rfl, cell_alloc w t rfl, cell_alloc w t rfl⟩
theorem rowE_keep {R : Nat → Prop} {w w' : World} {B : Nat} {e : TypeId} {sz : Nat} {v : Value} {n : Nat} {xs : List Value} (h : w.ownsRow B e sz v n xs) (K : Keep R w w') (hn : ∀ k, B ≤ k → ¬ R k) : w'.ownsRow B e sz v n xs := by
  refine ⟨h.1, ?_⟩
  rcases h.2 with h0 | ⟨g, cap, cur, e1, hb, hg, rest⟩
  · exact .inl h0
  · exact .inr ⟨g, cap, cur, e1, hb, (K.block g (Array.getElem?_eq_some_iff.1 hg).1 (hn g hb)).trans hg, rest⟩
theorem Keep.ownGrown {w w1 w2 : World} {row : Option Nat} (K : Keep0 w w1) (g : w1.grownBy w2 row) (h : ∀ k, row = some k → w.heap.size ≤ k) : Keep0 w w2 :=
  K.step (⟨g.os, g.tape, g.output, g.size, fun k hk hn => g.block k hk (fun e => hn (h k e.symm))⟩ : KeepFrom w.heap.size w1 w2) (fun i hi hh => by have hh : w.heap.size ≤ i := hh; omega)
theorem sliceE_of_own {w : World} {B : Nat} {e : TypeId} {sz n : Nat} {v : Value} {xs : List Value} (h : w.ownsRow B e sz v n xs) : ∃ ao n' cap, v = .slice ao n' cap := by
  rcases h.2 with ⟨e, _⟩ | ⟨_, _, _, e, _⟩
  · exact ⟨_, _, _, e⟩
  · exact ⟨_, _, _, e⟩
end Go.Proofs.YtoefibkhlhmlfaaGreat
