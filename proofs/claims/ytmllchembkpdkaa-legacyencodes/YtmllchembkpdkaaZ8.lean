/-
  What this seat's claims lean on of the texts Vcode.
  Conditions: as each theorem states.
-/
import Derived.WalkKit
import Derived.ProofKit
import Derived.Below
import Derived.Deep.Draws
import Derived.Deep.RegionHeld
import Derived.Test.YtmllchembkpdkaaChecked
import Derived.OpenShut
import Derived.ShutString
import Derived.WalkSpells
import Derived.WalkLawsBesides
import Derived.Deep.QuietTactic
import Derived.BigQuiet
import Derived.Laws.Bits64b
import Derived.PlainAid
import Derived.Lib.AppendStr
import Derived.Deep.AppendLies
import Derived.Laws.IdiomStrings
import Derived.Laws.BytesArg
import Derived.Deep.RegionWith
import Derived.Test.YtmllchembkpdkaaZ6
import Derived.Test.YtmllchembkpdkaaZ7
import Derived.Test.YtmllchembkpdkaaZ2
namespace Go.Proofs.Ytmllchembkpdkaa
open Go.RowKit
def U64 (n : Nat) : Prop := n < 18446744073709551616
def aTest (p : Option ByteArray) (a : ByteArray) : Int := if a.size = 0 then 14 else if falls p a = true then 6 else 0
def nTest (n : Nat) : Int := if n = 0 then 7 else 0
def rActor (p : Option ByteArray) : Rdr ByteArray := rTest ⟨#[]⟩ (aTest p) (rBlob 32)
def rCnt : Rdr Nat := rTest 0 nTest rNum
def rEnt (p : Option ByteArray) : Rdr En := rMap (fun q : ByteArray × Nat => (⟨q.1, q.2⟩ : En)) (rSeq (⟨#[]⟩, 0) (rActor p) (fun _ => rCnt))
def eEnt (x : En) : ByteArray := bEncT x.a ++ vText x.n
theorem pMax32 : pMax 32 = 32 := rfl
theorem pMax64 : pMax 64 = 64 := rfl
theorem ent_ok {p : Option ByteArray} {x : En} : cOne p x = 0 ∧ U64 x.n ↔ ((x.a.size < 18446744073709551616 ∧ (x.a.size : Int) ≤ pMax 32) ∧ aTest p x.a = 0) ∧ (x.n < 18446744073709551616 ∧ nTest x.n = 0) := by
  rw [pMax32]
  constructor
  · rintro ⟨h, hn⟩
    obtain ⟨⟨h1, h2, h3⟩, h4⟩ := cOne_zero.1 h
    refine ⟨⟨⟨by omega, by omega⟩, ?_⟩, hn, ?_⟩
    · unfold aTest
      rw [if_neg (by omega)]
      cases p with
      | none => rfl
      | some q => rw [falls_some, h4 q rfl]; rfl
    · unfold nTest; rw [if_neg h3]
  · rintro ⟨⟨⟨_, h2⟩, h3⟩, hn, h4⟩
    refine ⟨cOne_zero.2 ⟨⟨?_, by omega, ?_⟩, fun q hq => ?_⟩, hn⟩
    · refine Nat.pos_of_ne_zero fun e => ?_
      unfold aTest at h3; rw [if_pos e] at h3; exact absurd h3 (by decide)
    · intro e; unfold nTest at h4; rw [if_pos e] at h4; exact absurd h4 (by decide)
    · subst hq
      cases hb : bl q x.a with
      | true => rfl
      | false =>
        unfold aTest at h3
        by_cases h0 : x.a.size = 0
        · rw [if_pos h0] at h3; exact absurd h3 (by decide)
        · rw [if_neg h0, falls_some, hb, if_pos (by decide)] at h3; exact absurd h3 (by decide)
theorem ent_codec (p : Option ByteArray) : Codec (rEnt p) (fun x => cOne p x = 0 ∧ U64 x.n) eEnt := by
  have c1 := (blob_codec 32).test ⟨#[]⟩ (aTest p)
  have c2 := num_codec.test 0 nTest
  have c := ((c1.seq (⟨#[]⟩, 0) (B := fun _ => rCnt) (okB := fun _ n => n < 18446744073709551616 ∧ nTest n = 0) (encB := fun _ n => vText n) (fun _ _ => c2)).map (fun q : ByteArray × Nat => (⟨q.1, q.2⟩ : En)) (fun x => (x.a, x.n)) (fun _ _ => rfl) (fun _ _ => rfl))
  exact c.weak (fun v => ent_ok) (fun _ _ => rfl)
def rEnts : Nat → Option ByteArray → Rdr (List En)
  | 0, _ => rNil []
  | n + 1, p => rMap (fun q : En × List En => q.1 :: q.2) (rSeq (⟨⟨#[]⟩, 0⟩, []) (rEnt p) (fun x => rEnts n (some x.a)))
def eEnts : List En → ByteArray
  | [] => ⟨#[]⟩
  | x :: l => eEnt x ++ eEnts l
def okEnts (n : Nat) (p : Option ByteArray) (l : List En) : Prop := l.length = n ∧ cGo p l = 0 ∧ ∀ x ∈ l, U64 x.n
def uncons (l : List En) : En × List En := match l with
  | [] => (⟨⟨#[]⟩, 0⟩, [])
  | x :: r => (x, r)
theorem ents_codec : ∀ (n : Nat) (p : Option ByteArray), Codec (rEnts n p) (okEnts n p) eEnts
  | 0, p => by
    refine (Codec.nil ([] : List En)).weak (fun v => ?_) (fun v hv => ?_)
    · exact ⟨fun h => List.eq_nil_of_length_eq_zero h.1, fun h => by subst h; exact ⟨rfl, rfl, fun x hx => by cases hx⟩⟩
    · rw [hv]; rfl
  | n + 1, p => by
    have c := ((ent_codec p).seq (⟨⟨#[]⟩, 0⟩, []) (B := fun x => rEnts n (some x.a)) (okB := fun x => okEnts n (some x.a)) (encB := fun _ => eEnts) (fun x _ => ents_codec n (some x.a)))
    have c2 := c.map (fun q : En × List En => q.1 :: q.2) uncons (fun _ _ => rfl) (fun u hu => by
      cases u with
      | nil =>
        have h := (cOne_zero.1 hu.1.1).1.1
        exact absurd h (by decide)
      | cons x r => rfl)
    refine c2.weak (fun v => ?_) (fun v hv => ?_)
    · cases v with
      | nil => exact ⟨fun h => absurd h.1 (by simp), fun h => absurd (cOne_zero.1 h.1.1).1.1 (by decide)⟩
      | cons x r =>
        show okEnts (n + 1) p (x :: r) ↔ (cOne p x = 0 ∧ U64 x.n) ∧ okEnts n (some x.a) r
        unfold okEnts
        rw [cGo, List.length_cons]
        constructor
        · rintro ⟨h1, h2, h3⟩
          by_cases h0 : cOne p x = 0
          · rw [if_pos h0] at h2
            exact ⟨⟨h0, h3 x List.mem_cons_self⟩, by omega, h2, fun y hy => h3 y (List.mem_cons_of_mem _ hy)⟩
          · rw [if_neg h0] at h2; exact absurd h2 h0
        · rintro ⟨⟨h0, hx⟩, h1, h2, h3⟩
          rw [if_pos h0]
          refine ⟨by omega, h2, fun y hy => ?_⟩
          rcases List.mem_cons.1 hy with rfl | hy
          · exact hx
          · exact h3 y hy
    · cases v with
      | nil => exact absurd (cOne_zero.1 hv.1.1).1.1 (by decide)
      | cons x r => rfl
def rVec : Rdr (List En) := rMap (fun q : Nat × List En => q.2) (rSeq (0, []) (rCount 64) (fun n => rEnts n none))
def eVec (v : List En) : ByteArray := vText v.length ++ eEnts v
def okVec (v : List En) : Prop := vCheck v = 0 ∧ ∀ x ∈ v, U64 x.n
theorem vec_codec : Codec rVec okVec eVec := by
  have c := (((count_codec 64).seq (0, []) (B := fun n => rEnts n none) (okB := fun n => okEnts n none) (encB := fun _ => eEnts) (fun n _ => ents_codec n none)).map (fun q : Nat × List En => q.2) (fun l => (l.length, l)) (fun v hv => by
    obtain ⟨n, l⟩ := v
    have h : l.length = n := hv.2.1
    rw [h]) (fun _ _ => rfl))
  refine c.weak (fun v => ?_) (fun _ _ => rfl)
  show okVec v ↔ (v.length < 18446744073709551616 ∧ (v.length : Int) ≤ pMax 64) ∧ okEnts v.length none v
  unfold okVec okEnts
  rw [pMax64]
  constructor
  · rintro ⟨h, hn⟩
    obtain ⟨h1, h2⟩ := (check_zero v).1 h
    refine ⟨⟨by omega, by omega⟩, rfl, (cGo_zero v none).2 ⟨h2, fun _ e => by cases e⟩, hn⟩
  · rintro ⟨⟨_, h1⟩, _, h2, hn⟩
    exact ⟨(check_zero v).2 ⟨by omega, ((cGo_zero v none).1 h2).1⟩, hn⟩
theorem eEnt_size {x : En} (h : x.a.size ≤ 32) (hn : U64 x.n) : (eEnt x).size ≤ 43 := by
  have h1 : (vEnc x.a.size).length ≤ 0 + 1 := vEnc_len_lt 0 x.a.size (by omega)
  have h2 := (vText_le hn).2
  unfold eEnt bEncT
  rw [ByteArray.size_append, ByteArray.size_append, vText_size]
  omega
theorem eEnts_size : ∀ {l : List En}, (∀ x ∈ l, x.a.size ≤ 32 ∧ U64 x.n) → (eEnts l).size ≤ 43 * l.length
  | [], _ => Nat.zero_le _
  | x :: l, h => by
    have h1 := eEnt_size (h x List.mem_cons_self).1 (h x List.mem_cons_self).2
    have h2 := eEnts_size (fun y hy => h y (List.mem_cons_of_mem _ hy))
    show (eEnt x ++ eEnts l).size ≤ _
    rw [ByteArray.size_append, List.length_cons]
    omega
theorem eVec_size {v : List En} (h : okVec v) : (eVec v).size ≤ 2753 := by
  obtain ⟨h1, h2⟩ := (check_zero v).1 h.1
  have h3 := eEnts_size (fun x hx => ⟨(h2.1 x hx).2.1, h.2 x hx⟩)
  have h4 : (vEnc v.length).length ≤ 0 + 1 := vEnc_len_lt 0 v.length (by omega)
  unfold eVec
  rw [ByteArray.size_append, vText_size]
  omega
def rX {α : Type} (d : α) (A : Rdr α) (s : ByteArray) (a x : Int) : α × Int × Int := if x = 0 then A s a else (d, a, x)
theorem rX_yes {α : Type} (d : α) (A : Rdr α) (s : ByteArray) (a : Int) : rX d A s a 0 = A s a := if_pos rfl
theorem rX_no {α : Type} {d : α} {A : Rdr α} {s : ByteArray} {a x : Int} (h : x ≠ 0) : rX d A s a x = (d, a, x) := if_neg h
def lift (O : List En) (r : List En × Int × Int) : List En × Int × Int := if r.2.2 = 0 then (O ++ r.1, r.2) else ([], r.2)
theorem ents_zero (p : Option ByteArray) (s : ByteArray) (a : Int) (O : List En) : lift O (rEnts 0 p s a) = (O, a, 0) := by
  show lift O ([], a, 0) = _
  unfold lift
  rw [if_pos rfl, List.append_nil]
theorem ents_bad {n : Nat} {p : Option ByteArray} {s : ByteArray} {a : Int} (O : List En) (h : (rEnt p s a).2.2 ≠ 0) : lift O (rEnts (n + 1) p s a) = ([], (rEnt p s a).2) := by
  have e : (rEnts (n + 1) p s a).2 = (rEnt p s a).2 := by
    show (rSeq (⟨⟨#[]⟩, 0⟩, []) (rEnt p) (fun x => rEnts n (some x.a)) s a).2 = _
    rw [rSeq_no h]
  unfold lift
  rw [if_neg (by rw [e]; exact h), e]
theorem ents_more {n : Nat} {p : Option ByteArray} {s : ByteArray} {a : Int} (O : List En) (h : (rEnt p s a).2.2 = 0) : lift O (rEnts (n + 1) p s a) = lift (O ++ [(rEnt p s a).1]) (rEnts n (some (rEnt p s a).1.a) s (rEnt p s a).2.1) := by
  by_cases h1 : (rEnts n (some (rEnt p s a).1.a) s (rEnt p s a).2.1).2.2 = 0
  · have e : rEnts (n + 1) p s a = ((rEnt p s a).1 :: (rEnts n (some (rEnt p s a).1.a) s (rEnt p s a).2.1).1, (rEnts n (some (rEnt p s a).1.a) s (rEnt p s a).2.1).2) := by
      show rMap (fun q : En × List En => q.1 :: q.2) (rSeq (⟨⟨#[]⟩, 0⟩, []) (rEnt p) (fun x => rEnts n (some x.a))) s a = _
      unfold rMap
      rw [rSeq_yes h h1]
    unfold lift
    rw [e, if_pos h1, if_pos h1, List.append_assoc]
    rfl
  · have e : (rEnts (n + 1) p s a).2 = (rEnts n (some (rEnt p s a).1.a) s (rEnt p s a).2.1).2 := by
      show (rSeq (⟨⟨#[]⟩, 0⟩, []) (rEnt p) (fun x => rEnts n (some x.a)) s a).2 = _
      rw [rSeq_mid h h1]
    unfold lift
    rw [e, if_neg h1, if_neg h1]
theorem ent_a {p : Option ByteArray} {s : ByteArray} {a : Int} (h : bErr s a 0 32 ≠ 0) : (rEnt p s a).2 = (bAt s a 0 32, bErr s a 0 32) := by
  have e : (rActor p s a).2 = (bAt s a 0 32, bErr s a 0 32) := by unfold rActor; rw [rTest_no (show (rBlob 32 s a).2.2 ≠ 0 from h)]; rfl
  show (rSeq (⟨#[]⟩, 0) (rActor p) (fun _ => rCnt) s a).2 = _
  rw [rSeq_no (by rw [e]; exact h), e]
theorem ent_b {p : Option ByteArray} {s : ByteArray} {a : Int} (h : bErr s a 0 32 = 0) (h1 : aTest p (bTxt s a 0 32) ≠ 0) : (rEnt p s a).2 = (bAt s a 0 32, aTest p (bTxt s a 0 32)) := by
  have e : (rActor p s a).2 = (bAt s a 0 32, aTest p (bTxt s a 0 32)) := by unfold rActor; rw [rTest_bad (show (rBlob 32 s a).2.2 = 0 from h) h1]; rfl
  show (rSeq (⟨#[]⟩, 0) (rActor p) (fun _ => rCnt) s a).2 = _
  rw [rSeq_no (by rw [e]; exact h1), e]
theorem actor_yes {p : Option ByteArray} {s : ByteArray} {a : Int} (h : bErr s a 0 32 = 0) (h1 : aTest p (bTxt s a 0 32) = 0) : rActor p s a = (bTxt s a 0 32, bAt s a 0 32, 0) := by
  unfold rActor
  rw [rTest_yes (show (rBlob 32 s a).2.2 = 0 from h) h1]
  show (bTxt s a 0 32, bAt s a 0 32, bErr s a 0 32) = _
  rw [h]
theorem ent_c {p : Option ByteArray} {s : ByteArray} {a : Int} (h : bErr s a 0 32 = 0) (h1 : aTest p (bTxt s a 0 32) = 0) (h2 : tErr s (bAt s a 0 32) 0 ≠ 0) : (rEnt p s a).2 = (tAt s (bAt s a 0 32) 0, tErr s (bAt s a 0 32) 0) := by
  have e := actor_yes h h1
  have e2 : (rCnt s (bAt s a 0 32)).2 = (tAt s (bAt s a 0 32) 0, tErr s (bAt s a 0 32) 0) := by unfold rCnt; rw [rTest_no (show (rNum s (bAt s a 0 32)).2.2 ≠ 0 from h2)]; rfl
  show (rSeq (⟨#[]⟩, 0) (rActor p) (fun _ => rCnt) s a).2 = _
  rw [rSeq_mid (by rw [e]) (by rw [e]; show (rCnt s (bAt s a 0 32)).2.2 ≠ 0; rw [e2]; exact h2), e]
  exact e2
theorem ent_d {p : Option ByteArray} {s : ByteArray} {a : Int} (h : bErr s a 0 32 = 0) (h1 : aTest p (bTxt s a 0 32) = 0) (h2 : tErr s (bAt s a 0 32) 0 = 0) (h3 : tNum s (bAt s a 0 32) 0 = 0) : (rEnt p s a).2 = (tAt s (bAt s a 0 32) 0, 7) := by
  have e := actor_yes h h1
  have h3' : nTest (rNum s (bAt s a 0 32)).1 = 7 := by show nTest (tNum s (bAt s a 0 32) 0).toNat = 7; rw [h3]; rfl
  have e2 : (rCnt s (bAt s a 0 32)).2 = (tAt s (bAt s a 0 32) 0, 7) := by unfold rCnt; rw [rTest_bad (show (rNum s (bAt s a 0 32)).2.2 = 0 from h2) (by rw [h3']; decide), h3']; rfl
  show (rSeq (⟨#[]⟩, 0) (rActor p) (fun _ => rCnt) s a).2 = _
  rw [rSeq_mid (by rw [e]) (by rw [e]; show (rCnt s (bAt s a 0 32)).2.2 ≠ 0; rw [e2]; show (7 : Int) ≠ 0; decide), e]
  exact e2
theorem ent_e {p : Option ByteArray} {s : ByteArray} {a : Int} (h : bErr s a 0 32 = 0) (h1 : aTest p (bTxt s a 0 32) = 0) (h2 : tErr s (bAt s a 0 32) 0 = 0) (h3 : tNum s (bAt s a 0 32) 0 ≠ 0) : rEnt p s a = (⟨bTxt s a 0 32, (tNum s (bAt s a 0 32) 0).toNat⟩, tAt s (bAt s a 0 32) 0, 0) := by
  have e := actor_yes h h1
  have hb := tNum_lt s (bAt s a 0 32) 0
  have h3' : nTest (rNum s (bAt s a 0 32)).1 = 0 := by show nTest (tNum s (bAt s a 0 32) 0).toNat = 0; unfold nTest; rw [if_neg (by omega)]
  have e2 : rCnt s (bAt s a 0 32) = ((tNum s (bAt s a 0 32) 0).toNat, tAt s (bAt s a 0 32) 0, 0) := by
    unfold rCnt
    rw [rTest_yes (show (rNum s (bAt s a 0 32)).2.2 = 0 from h2) h3']
    show (_, _, tErr s (bAt s a 0 32) 0) = _
    rw [h2]
  show rMap (fun q : ByteArray × Nat => (⟨q.1, q.2⟩ : En)) (rSeq (⟨#[]⟩, 0) (rActor p) (fun _ => rCnt)) s a = _
  unfold rMap
  rw [rSeq_yes (by rw [e]) (by rw [e]; show (rCnt s (bAt s a 0 32)).2.2 = 0; rw [e2]), e]
  show ((⟨bTxt s a 0 32, (rCnt s (bAt s a 0 32)).1⟩ : En), (rCnt s (bAt s a 0 32)).2) = _
  rw [e2]
theorem vec_a {s : ByteArray} {a : Int} (h : kErr s a 0 64 ≠ 0) : rVec s a = ([], tAt s a 0, kErr s a 0 64) := by
  show rMap (fun q : Nat × List En => q.2) (rSeq (0, []) (rCount 64) (fun n => rEnts n none)) s a = _
  unfold rMap
  rw [rSeq_no (show (rCount 64 s a).2.2 ≠ 0 from h)]
  rfl
theorem vec_b {s : ByteArray} {a : Int} (h : kErr s a 0 64 = 0) : rVec s a = lift [] (rEnts (kNum s a 0 64).toNat none s (tAt s a 0)) := by
  show rMap (fun q : Nat × List En => q.2) (rSeq (0, []) (rCount 64) (fun n => rEnts n none)) s a = _
  unfold rMap lift
  by_cases h1 : (rEnts (kNum s a 0 64).toNat none s (tAt s a 0)).2.2 = 0
  · rw [rSeq_yes (show (rCount 64 s a).2.2 = 0 from h) h1, if_pos h1]; rfl
  · rw [rSeq_mid (show (rCount 64 s a).2.2 = 0 from h) h1, if_neg h1]; rfl
end Go.Proofs.Ytmllchembkpdkaa
