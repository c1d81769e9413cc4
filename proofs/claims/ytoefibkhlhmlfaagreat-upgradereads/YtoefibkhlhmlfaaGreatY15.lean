/-
  What this seat's claims lean on of the texts Old, Obj, RefVec4.
  Conditions: as each theorem states.
-/
import Derived.WalkKit
import Derived.ProofKit
import Derived.Below
import Derived.Deep.Draws
import Derived.Deep.RegionHeld
import Derived.Test.YtoefibkhlhmlfaaGreatChecked
import Derived.OpenShut
import Derived.ShutString
import Derived.WalkSpells
import Derived.WalkLawsBesides
import Derived.Deep.QuietTactic
import Derived.BigQuiet
import Derived.Laws.Bits64b
import Derived.PlainAid
import Derived.Lib.AppendStr
import Derived.Deep.AppendLies
import Derived.Laws.IdiomStrings
import Derived.Laws.BytesArg
import Derived.Deep.RegionWith
import Derived.Test.YtoefibkhlhmlfaaGreatY13
import Derived.Test.YtoefibkhlhmlfaaGreatY9
import Derived.Test.YtoefibkhlhmlfaaGreatY8
import Derived.Laws.AppendOwn
import Derived.Deep.DeepAppendWide
import Derived.Deep.Upon
namespace Go.Proofs.YtoefibkhlhmlfaaGreat
open Go.RowKit
structure Os where
  c : List En
  d : Bool
  v : ByteArray
def zOs : Os := ⟨[], false, ⟨#[]⟩⟩
structure Ol where
  key : ByteArray
  l : List Os
def zOl : Ol := ⟨⟨#[]⟩, []⟩
def osCheck (x : Os) : Int := if vCheck x.c = 0 then (if 32768 < x.v.size then 3 else 0) else vCheck x.c
theorem osCheck_zero {x : Os} : osCheck x = 0 ↔ vCheck x.c = 0 ∧ x.v.size ≤ 32768 := by
  unfold osCheck
  by_cases h1 : vCheck x.c = 0
  · rw [if_pos h1]
    by_cases h3 : 32768 < x.v.size
    · rw [if_pos h3]; exact ⟨fun e => absurd e (by decide), fun e => by omega⟩
    · rw [if_neg h3]; exact ⟨fun _ => ⟨h1, by omega⟩, fun _ => rfl⟩
  · rw [if_neg h1]; exact ⟨fun e => absurd e h1, fun e => absurd e.1 h1⟩
def osU (x : Os) : Prop := ∀ y ∈ x.c, U64 y.n
def okOs (x : Os) : Prop := okVec x.c ∧ x.v.size ≤ 32768
theorem okOs_U {x : Os} : okOs x ↔ osCheck x = 0 ∧ osU x := by
  rw [osCheck_zero]
  exact ⟨fun h => ⟨⟨h.1.1, h.2⟩, h.1.2⟩, fun h => ⟨⟨h.1.1, h.2⟩, h.1.2⟩⟩
def seenIn (seen : List Os) (x : Os) : Bool := seen.any (fun y => vSameL y.c x.c)
where vSameL (a b : List En) : Bool := decide (a.length = b.length) && (a.zip b).all (fun p => decide (p.1.a = p.2.a) && decide (p.1.n = p.2.n))
theorem vSameL_iff : ∀ {a b : List En}, seenIn.vSameL a b = true ↔ a = b := by
  intro a
  unfold seenIn.vSameL
  induction a with
  | nil =>
    intro b
    cases b with
    | nil => simp
    | cons y m => simp
  | cons x l ih =>
    intro b
    cases b with
    | nil => simp
    | cons y m =>
      have h := ih (b := m)
      simp only [Bool.and_eq_true, decide_eq_true_eq] at h
      simp only [List.length_cons, List.zip_cons_cons, List.all_cons, Bool.and_eq_true, decide_eq_true_eq, List.cons.injEq]
      constructor
      · rintro ⟨h1, ⟨h2, h3⟩, h4⟩
        exact ⟨En.eq h2 h3, h.1 ⟨by omega, h4⟩⟩
      · rintro ⟨h1, h2⟩
        obtain ⟨q1, q2⟩ := h.2 h2
        subst h1
        exact ⟨by omega, ⟨rfl, rfl⟩, q2⟩
theorem seenIn_iff {seen : List Os} {x : Os} : seenIn seen x = true ↔ ∃ y ∈ seen, y.c = x.c := by
  unfold seenIn
  rw [List.any_eq_true]
  exact ⟨fun ⟨y, h1, h2⟩ => ⟨y, h1, vSameL_iff.1 h2⟩, fun ⟨y, h1, h2⟩ => ⟨y, h1, vSameL_iff.2 h2⟩⟩
def osTest (seen : List Os) (x : Os) : Int := if seenIn seen x = true then 6 else 0
def osNext (seen : List Os) (x : Os) : List Os := seen ++ [x]
def osOne (seen : List Os) (x : Os) : Int := if osCheck x = 0 then osTest seen x else osCheck x
theorem osTest_zero {seen : List Os} {x : Os} : osTest seen x = 0 ↔ ∀ y ∈ seen, y.c ≠ x.c := by
  unfold osTest
  cases h : seenIn seen x with
  | true =>
    obtain ⟨y, h1, h2⟩ := seenIn_iff.1 h
    exact ⟨fun e => absurd e (by decide), fun e => absurd h2 (e y h1)⟩
  | false =>
    refine ⟨fun _ y h1 h2 => ?_, fun _ => rfl⟩
    have := seenIn_iff.2 ⟨y, h1, h2⟩
    rw [h] at this
    cases this
theorem osOne_zero {seen : List Os} {x : Os} : osOne seen x = 0 ↔ osCheck x = 0 ∧ osTest seen x = 0 := by
  unfold osOne
  by_cases h : osCheck x = 0
  · rw [if_pos h]; exact ⟨fun e => ⟨h, e⟩, fun e => e.2⟩
  · rw [if_neg h]; exact ⟨fun e => absurd e h, fun e => absurd e.1 h⟩
def Unlike (l : List Os) : Prop := l.Pairwise (fun x y => x.c ≠ y.c)
theorem osT_zero : ∀ (l seen : List Os), mGo osTest osNext seen l = 0 ↔ Unlike l ∧ ∀ x ∈ l, ∀ y ∈ seen, y.c ≠ x.c
  | [], seen => ⟨fun _ => ⟨List.Pairwise.nil, (fun _ h => by cases h)⟩, fun _ => rfl⟩
  | x :: l, seen => by
    rw [mGo]
    constructor
    · intro h
      by_cases h0 : osTest seen x = 0
      · rw [if_pos h0] at h
        obtain ⟨h1, h2⟩ := (osT_zero l (osNext seen x)).1 h
        refine ⟨List.pairwise_cons.2 ⟨fun y hy => h2 y hy x (List.mem_append_right _ List.mem_cons_self), h1⟩, fun y hy => ?_⟩
        rcases List.mem_cons.1 hy with rfl | hy
        · exact osTest_zero.1 h0
        · exact fun z hz => h2 y hy z (List.mem_append_left _ hz)
      · rw [if_neg h0] at h; exact absurd h h0
    · rintro ⟨h1, h2⟩
      obtain ⟨p1, p2⟩ := List.pairwise_cons.1 h1
      rw [if_pos (osTest_zero.2 (h2 x List.mem_cons_self))]
      refine (osT_zero l (osNext seen x)).2 ⟨p2, fun y hy z hz => ?_⟩
      rcases List.mem_append.1 hz with hz | hz
      · exact h2 y (List.mem_cons_of_mem _ hy) z hz
      · rw [List.mem_singleton.1 hz]; exact p1 y hy
theorem osGo_zero : ∀ (l seen : List Os), mGo osOne osNext seen l = 0 ↔ (∀ x ∈ l, osCheck x = 0) ∧ mGo osTest osNext seen l = 0
  | [], seen => ⟨fun _ => ⟨(fun _ h => by cases h), rfl⟩, fun _ => rfl⟩
  | x :: l, seen => by
    rw [mGo, mGo]
    constructor
    · intro h
      by_cases h0 : osOne seen x = 0
      · rw [if_pos h0] at h
        obtain ⟨o1, o2⟩ := osOne_zero.1 h0
        obtain ⟨h1, h2⟩ := (osGo_zero l (osNext seen x)).1 h
        rw [if_pos o2]
        refine ⟨fun y hy => ?_, h2⟩
        rcases List.mem_cons.1 hy with rfl | hy
        · exact o1
        · exact h1 y hy
      · rw [if_neg h0] at h; exact absurd h h0
    · rintro ⟨h1, h2⟩
      by_cases h0 : osTest seen x = 0
      · rw [if_pos h0] at h2
        rw [if_pos (osOne_zero.2 ⟨h1 x List.mem_cons_self, h0⟩)]
        exact (osGo_zero l (osNext seen x)).2 ⟨fun y hy => h1 y (List.mem_cons_of_mem _ hy), h2⟩
      · rw [if_neg h0] at h2; exact absurd h2 h0
def olCheck (o : Ol) : Int := if outS o.key o.l.length = 0 then mGo osOne osNext [] o.l else outS o.key o.l.length
theorem olCheck_zero {o : Ol} : olCheck o = 0 ↔ outS o.key o.l.length = 0 ∧ (∀ x ∈ o.l, osCheck x = 0) ∧ Unlike o.l := by
  unfold olCheck
  by_cases h : outS o.key o.l.length = 0
  · rw [if_pos h, osGo_zero, osT_zero]
    exact ⟨fun e => ⟨h, e.1, e.2.1⟩, fun e => ⟨e.2.1, e.2.2, fun _ _ _ hy => by cases hy⟩⟩
  · rw [if_neg h]
    exact ⟨fun e => absurd e h, fun e => absurd e.1 h⟩
def okOl (o : Ol) : Prop := olCheck o = 0 ∧ ∀ x ∈ o.l, osU x
def rOs : Rdr Os := rMap (fun q : List En × (Bool × ByteArray) => (⟨q.1, q.2.1, q.2.2⟩ : Os)) (rSeq ([], (false, ⟨#[]⟩)) rVec (fun _ => rEnd))
def eOs (x : Os) : ByteArray := eVec x.c ++ (eFlag x.d ++ bEncT x.v)
theorem os_codec : Codec rOs okOs eOs := by
  have cE : Codec rEnd (fun q : Bool × ByteArray => True ∧ (q.2.size < 18446744073709551616 ∧ (q.2.size : Int) ≤ pMax 32768)) (fun q => eFlag q.1 ++ bEncT q.2) :=
    flag_codec.seq (B := fun _ => rBlob 32768) (okB := fun _ (s : ByteArray) => s.size < 18446744073709551616 ∧ (s.size : Int) ≤ pMax 32768) (encB := fun _ => bEncT) (false, ⟨#[]⟩) (fun _ _ => blob_codec 32768)
  have c := (vec_codec.seq (B := fun _ => rEnd) (okB := fun _ (q : Bool × ByteArray) => True ∧ (q.2.size < 18446744073709551616 ∧ (q.2.size : Int) ≤ pMax 32768)) (encB := fun _ (q : Bool × ByteArray) => eFlag q.1 ++ bEncT q.2) ([], (false, ⟨#[]⟩)) (fun _ _ => cE)).map (fun q : List En × (Bool × ByteArray) => (⟨q.1, q.2.1, q.2.2⟩ : Os)) (fun x => (x.c, (x.d, x.v))) (fun _ _ => rfl) (fun _ _ => rfl)
  refine c.weak (fun x => ?_) (fun _ _ => rfl)
  show okOs x ↔ okVec x.c ∧ (True ∧ (x.v.size < 18446744073709551616 ∧ (x.v.size : Int) ≤ pMax 32768))
  unfold okOs
  rw [pMax15]
  exact ⟨fun h => ⟨h.1, trivial, by omega, by omega⟩, fun h => ⟨h.1, by omega⟩⟩
def badOs : Os := ⟨[⟨⟨#[]⟩, 1⟩], false, ⟨#[]⟩⟩
theorem badOs_no : ¬ okOs badOs := fun h => absurd h.1.1 (by decide)
def rOss (n : Nat) (seen : List Os) : Rdr (List Os) := rMany zOs rOs osTest osNext n seen
def eOss (l : List Os) : ByteArray := eMany eOs l
theorem oss_codec (n : Nat) (seen : List Os) : Codec (rOss n seen) (okMany okOs osTest osNext n seen) eOss := many_codec os_codec badOs_no n seen
def rOlT : Rdr (Nat × List Os) := rSeq (0, []) rNs (fun n => rOss n [])
def rOl : Rdr Ol := rMap (fun q : ByteArray × (Nat × List Os) => (⟨q.1, q.2.2⟩ : Ol)) (rSeq (⟨#[]⟩, (0, [])) rKey (fun _ => rOlT))
def eOl (o : Ol) : ByteArray := bEncT o.key ++ (vText o.l.length ++ eOss o.l)
theorem ol_codec : Codec rOl okOl eOl := by
  have cT : Codec rOlT (fun q : Nat × List Os => ((q.1 < 18446744073709551616 ∧ (q.1 : Int) ≤ pMax 16) ∧ nTest q.1 = 0) ∧ okMany okOs osTest osNext q.1 [] q.2) (fun q => vText q.1 ++ eOss q.2) :=
    ((count_codec 16).test 0 nTest).seq (B := fun n => rOss n []) (okB := fun n => okMany okOs osTest osNext n []) (encB := fun _ => eOss) (0, []) (fun n _ => oss_codec n [])
  have c := (((blob_codec 128).test ⟨#[]⟩ kyTest).seq (B := fun _ => rOlT) (okB := fun _ (q : Nat × List Os) => ((q.1 < 18446744073709551616 ∧ (q.1 : Int) ≤ pMax 16) ∧ nTest q.1 = 0) ∧ okMany okOs osTest osNext q.1 [] q.2) (encB := fun _ (q : Nat × List Os) => vText q.1 ++ eOss q.2) (⟨#[]⟩, (0, [])) (fun _ _ => cT)).map (fun q : ByteArray × (Nat × List Os) => (⟨q.1, q.2.2⟩ : Ol)) (fun o => (o.key, (o.l.length, o.l))) (fun v hv => by
    obtain ⟨k, n, l⟩ := v
    have h : l.length = n := hv.2.2.1
    rw [h]) (fun _ _ => rfl)
  refine c.weak (fun o => ?_) (fun _ _ => rfl)
  show okOl o ↔ ((o.key.size < 18446744073709551616 ∧ (o.key.size : Int) ≤ pMax 128) ∧ kyTest o.key = 0) ∧ (((o.l.length < 18446744073709551616 ∧ (o.l.length : Int) ≤ pMax 16) ∧ nTest o.l.length = 0) ∧ okMany okOs osTest osNext o.l.length [] o.l)
  unfold okOl okMany
  rw [pMax128, pMax16, olCheck_zero, outS_zero, osT_zero]
  unfold kyTest nTest
  constructor
  · rintro ⟨⟨⟨h1, h2, h3, h4⟩, hg, hu⟩, hn⟩
    rw [if_neg (by omega), if_neg (by omega)]
    exact ⟨⟨⟨by omega, by omega⟩, rfl⟩, ⟨⟨by omega, by omega⟩, rfl⟩, rfl, ⟨hu, fun _ _ _ hy => by cases hy⟩, fun x hx => okOs_U.2 ⟨hg x hx, hn x hx⟩⟩
  · rintro ⟨⟨⟨_, h1⟩, h2⟩, ⟨⟨_, h3⟩, h4⟩, _, ⟨hu, _⟩, hn⟩
    have h2' : o.key.size ≠ 0 := fun e => by rw [if_pos e] at h2; exact absurd h2 (by decide)
    have h4' : o.l.length ≠ 0 := fun e => by rw [if_pos e] at h4; exact absurd h4 (by decide)
    exact ⟨⟨⟨by omega, by omega, by omega, by omega⟩, fun x hx => (okOs_U.1 (hn x hx)).1, hu⟩, fun x hx => (okOs_U.1 (hn x hx)).2⟩
section
variable {s : ByteArray} {a b c : Int}
theorem os_1 (h : (rVec s a).2.2 ≠ 0) : rOs s a = (zOs, (rVec s a).2) := by
  show rMap _ (rSeq ([], (false, ⟨#[]⟩)) rVec (fun _ => rEnd)) s a = _
  unfold rMap
  rw [rSeq_no h]
  rfl
theorem os_rest {V : List En} (h : rVec s a = (V, b, 0)) : rOs s a = if (rEnd s b).2.2 = 0 then ((⟨V, (rEnd s b).1.1, (rEnd s b).1.2⟩ : Os), (rEnd s b).2) else (zOs, (rEnd s b).2) := by
  show rMap _ (rSeq ([], (false, ⟨#[]⟩)) rVec (fun _ => rEnd)) s a = _
  unfold rMap
  by_cases h1 : (rEnd s b).2.2 = 0
  · rw [rSeq_yes (by rw [h]) (by rw [h]; exact h1), if_pos h1, h]
  · rw [rSeq_mid (by rw [h]) (by rw [h]; exact h1), if_neg h1, h]
    rfl
theorem os_2 {V : List En} (h : rVec s a = (V, b, 0)) (h2 : gErr s b 0 ≠ 0) : rOs s a = (zOs, cAt s b 0 1, gErr s b 0) := by
  have e : rEnd s b = ((false, ⟨#[]⟩), cAt s b 0 1, gErr s b 0) := rSeq_no (A := rFlag) h2
  rw [os_rest h, e, if_neg h2]
theorem os_3 {V : List En} (h : rVec s a = (V, b, 0)) (h2 : gErr s b 0 = 0) (h3 : bErr s (cAt s b 0 1) 0 32768 ≠ 0) : rOs s a = (zOs, bAt s (cAt s b 0 1) 0 32768, bErr s (cAt s b 0 1) 0 32768) := by
  have e : rEnd s b = ((false, ⟨#[]⟩), bAt s (cAt s b 0 1) 0 32768, bErr s (cAt s b 0 1) 0 32768) := rSeq_mid (A := rFlag) (B := fun _ => rBlob 32768) h2 h3
  rw [os_rest h, e, if_neg h3]
theorem os_4 {V : List En} (h : rVec s a = (V, b, 0)) (h2 : gErr s b 0 = 0) (h3 : bErr s (cAt s b 0 1) 0 32768 = 0) : rOs s a = (⟨V, gSet s b 0, bTxt s (cAt s b 0 1) 0 32768⟩, bAt s (cAt s b 0 1) 0 32768, 0) := by
  have e : rEnd s b = ((gSet s b 0, bTxt s (cAt s b 0 1) 0 32768), bAt s (cAt s b 0 1) 0 32768, bErr s (cAt s b 0 1) 0 32768) := rSeq_yes (A := rFlag) (B := fun _ => rBlob 32768) h2 h3
  rw [os_rest h, e, h3, if_pos rfl]
theorem ol_1 (h : bErr s a 0 128 ≠ 0) : rOl s a = (zOl, bAt s a 0 128, bErr s a 0 128) := by
  have e : rKey s a = (⟨#[]⟩, bAt s a 0 128, bErr s a 0 128) := by unfold rKey; rw [rTest_no (show (rBlob 128 s a).2.2 ≠ 0 from h)]; rfl
  show rMap _ (rSeq (⟨#[]⟩, (0, [])) rKey (fun _ => rOlT)) s a = _
  unfold rMap
  rw [rSeq_no (by rw [e]; exact h), e]
  rfl
theorem ol_2 (h : bErr s a 0 128 = 0) (h1 : (bTxt s a 0 128).size = 0) : rOl s a = (zOl, bAt s a 0 128, 14) := by
  have ht : kyTest (rBlob 128 s a).1 = 14 := if_pos h1
  have e : rKey s a = (⟨#[]⟩, bAt s a 0 128, 14) := by unfold rKey; rw [rTest_bad (show (rBlob 128 s a).2.2 = 0 from h) (by rw [ht]; decide), ht]; rfl
  show rMap _ (rSeq (⟨#[]⟩, (0, [])) rKey (fun _ => rOlT)) s a = _
  unfold rMap
  rw [rSeq_no (by rw [e]; show (14 : Int) ≠ 0; decide), e]
  rfl
theorem ol_rest {K : ByteArray} (h : rKey s a = (K, b, 0)) : rOl s a = if (rOlT s b).2.2 = 0 then ((⟨K, (rOlT s b).1.2⟩ : Ol), (rOlT s b).2) else (zOl, (rOlT s b).2) := by
  show rMap _ (rSeq (⟨#[]⟩, (0, [])) rKey (fun _ => rOlT)) s a = _
  unfold rMap
  by_cases h1 : (rOlT s b).2.2 = 0
  · rw [rSeq_yes (by rw [h]) (by rw [h]; exact h1), if_pos h1, h]
  · rw [rSeq_mid (by rw [h]) (by rw [h]; exact h1), if_neg h1, h]
    rfl
theorem olT_1 (h : kErr s b 0 16 ≠ 0) : (rOlT s b).2 = (tAt s b 0, kErr s b 0 16) := by
  have e : (rNs s b).2 = (tAt s b 0, kErr s b 0 16) := by unfold rNs; rw [rTest_no (show (rCount 16 s b).2.2 ≠ 0 from h)]; rfl
  unfold rOlT
  rw [rSeq_no (by rw [e]; exact h), e]
theorem olT_2 (h : kErr s b 0 16 = 0) (h1 : kNum s b 0 16 = 0) : (rOlT s b).2 = (tAt s b 0, 7) := by
  have ht : nTest (rCount 16 s b).1 = 7 := by show nTest (kNum s b 0 16).toNat = 7; rw [h1]; rfl
  have e : (rNs s b).2 = (tAt s b 0, 7) := by unfold rNs; rw [rTest_bad (show (rCount 16 s b).2.2 = 0 from h) (by rw [ht]; decide), ht]; rfl
  unfold rOlT
  rw [rSeq_no (by rw [e]; show (7 : Int) ≠ 0; decide), e]
theorem olT_3 (h : kErr s b 0 16 = 0) (h1 : kNum s b 0 16 ≠ 0) : (rOlT s b).1.2 = (liftM [] (rOss (kNum s b 0 16).toNat [] s (tAt s b 0))).1 ∧ (rOlT s b).2 = (liftM [] (rOss (kNum s b 0 16).toNat [] s (tAt s b 0))).2 := by
  have hb := kNum_bd s b 0 16
  have ht : nTest (rCount 16 s b).1 = 0 := by show nTest (kNum s b 0 16).toNat = 0; unfold nTest; rw [if_neg (by omega)]
  have e : rNs s b = ((kNum s b 0 16).toNat, tAt s b 0, 0) := by
    unfold rNs
    rw [rTest_yes (show (rCount 16 s b).2.2 = 0 from h) ht]
    show (_, _, kErr s b 0 16) = _
    rw [h]
  unfold rOlT liftM
  by_cases h2 : (rOss (kNum s b 0 16).toNat [] s (tAt s b 0)).2.2 = 0
  · rw [rSeq_yes (by rw [e]) (by rw [e]; exact h2), if_pos h2, e]
    exact ⟨rfl, rfl⟩
  · rw [rSeq_mid (by rw [e]) (by rw [e]; exact h2), if_neg h2, e]
    exact ⟨rfl, rfl⟩
theorem ol_end {BA CA : Int} {KT : ByteArray} {N : Nat} (hk : rKey s a = (KT, BA, 0)) (hc : kErr s BA 0 16 = 0) (hN : kNum s BA 0 16 = (N : Int)) (h0 : N ≠ 0) (hA : tAt s BA 0 = CA) {R : List Os × Int × Int} (hR : liftM [] (rOss N [] s CA) = R) : rOl s a = if R.2.2 = 0 then ((⟨KT, R.1⟩ : Ol), R.2) else (zOl, R.2) := by
  obtain ⟨h1, h2⟩ := olT_3 hc (by rw [hN]; omega)
  rw [hN, hA, Int.toNat_natCast, hR] at h1 h2
  rw [ol_rest hk, h1, h2]
end
def pOs (M : Int) (p : ByteArray × Int) (x : Os) : ByteArray × Int := wPut M 32768 (wFlag M (pVec M p x.c) x.d) x.v
theorem Wr.os {x : Os} (h : okOs x) : Wr (fun M p => pOs M p x) (eOs x) := by
  have c := ((Wr.vec h.1).seq (Wr.flag x.d)).seq (Wr.blob (m := 32768) (s := x.v) (by rw [pMax15]; have := h.2; omega))
  refine c.eq ?_
  unfold eOs
  rw [ByteArray.append_assoc]
def decL (s : ByteArray) : Ol × Int := dec zOl rOl s
end Go.Proofs.YtoefibkhlhmlfaaGreat
namespace Go.Proofs.YtoefibkhlhmlfaaGreat
open Go.RowKit
structure Ob where
  key : ByteArray
  l : List Sb
def zOb : Ob := ⟨⟨#[]⟩, []⟩
def fTest (p : Option ByteArray) (x : Sb) : Int := if falls p (eClk x.k) = true then 6 else 0
def oOne (p : Option ByteArray) (x : Sb) : Int := if sCheck x = 0 then fTest p x else sCheck x
def oGo : Option ByteArray → List Sb → Int
  | _, [] => 0
  | p, x :: l => if oOne p x = 0 then oGo (some (eClk x.k)) l else oOne p x
def oCheck (o : Ob) : Int := if outS o.key o.l.length = 0 then oGo none o.l else outS o.key o.l.length
def sbU (x : Sb) : Prop := (∀ y ∈ x.k.c, U64 y.n) ∧ U64 x.k.x.n
theorem oOne_zero {p : Option ByteArray} {x : Sb} : oOne p x = 0 ↔ sCheck x = 0 ∧ fTest p x = 0 := by
  unfold oOne
  by_cases h : sCheck x = 0
  · rw [if_pos h]; exact ⟨fun e => ⟨h, e⟩, fun e => e.2⟩
  · rw [if_neg h]; exact ⟨fun e => absurd e h, fun e => absurd e.1 h⟩
theorem fTest_zero {p : Option ByteArray} {x : Sb} : fTest p x = 0 ↔ ∀ q, p = some q → bl q (eClk x.k) = true := by
  unfold fTest
  cases p with
  | none =>
    rw [falls_none, if_neg (by decide)]
    exact ⟨(fun _ q e => by cases e), fun _ => rfl⟩
  | some q =>
    rw [falls_some]
    cases hb : bl q (eClk x.k) with
    | true => exact ⟨fun _ q' e => by cases e; exact hb, fun _ => rfl⟩
    | false => exact ⟨fun e => absurd e (by decide), fun e => by rw [e q rfl] at hb; cases hb⟩
def GoodS (l : List Sb) : Prop := (∀ x ∈ l, sCheck x = 0) ∧ l.Pairwise (fun x y => bl (eClk x.k) (eClk y.k) = true)
theorem oGo_zero : ∀ (l : List Sb) (p : Option ByteArray), oGo p l = 0 ↔ GoodS l ∧ ∀ q, p = some q → ∀ x ∈ l, bl q (eClk x.k) = true
  | [], p => ⟨fun _ => ⟨⟨(fun _ h => by cases h), List.Pairwise.nil⟩, (fun _ _ _ h => by cases h)⟩, fun _ => rfl⟩
  | x :: l, p => by
    rw [oGo]
    constructor
    · intro h
      by_cases h0 : oOne p x = 0
      · rw [if_pos h0] at h
        obtain ⟨⟨g1, g2⟩, g3⟩ := (oGo_zero l (some (eClk x.k))).1 h
        obtain ⟨o1, o2⟩ := oOne_zero.1 h0
        refine ⟨⟨?_, List.pairwise_cons.2 ⟨fun y hy => g3 _ rfl y hy, g2⟩⟩, fun q e y hy => ?_⟩
        · intro y hy
          rcases List.mem_cons.1 hy with rfl | hy
          · exact o1
          · exact g1 y hy
        · rcases List.mem_cons.1 hy with rfl | hy
          · exact fTest_zero.1 o2 q e
          · exact bl_trans (fTest_zero.1 o2 q e) (g3 _ rfl y hy)
      · rw [if_neg h0] at h
        exact absurd h h0
    · rintro ⟨⟨g1, g2⟩, g3⟩
      obtain ⟨p1, p2⟩ := List.pairwise_cons.1 g2
      have h0 : oOne p x = 0 := oOne_zero.2 ⟨g1 x List.mem_cons_self, fTest_zero.2 (fun q e => g3 q e x List.mem_cons_self)⟩
      rw [if_pos h0]
      exact (oGo_zero l (some (eClk x.k))).2 ⟨⟨fun y hy => g1 y (List.mem_cons_of_mem _ hy), p2⟩, fun q e y hy => by cases e; exact p1 y hy⟩
theorem oCheck_zero {o : Ob} : oCheck o = 0 ↔ outS o.key o.l.length = 0 ∧ GoodS o.l := by
  unfold oCheck
  by_cases h : outS o.key o.l.length = 0
  · rw [if_pos h, oGo_zero]
    exact ⟨fun e => ⟨h, e.1⟩, fun e => ⟨e.2, fun q hq => by cases hq⟩⟩
  · rw [if_neg h]
    exact ⟨fun e => absurd e h, fun e => absurd e.1 h⟩
def okOb (o : Ob) : Prop := oCheck o = 0 ∧ ∀ x ∈ o.l, sbU x
def rSibT (p : Option ByteArray) : Rdr Sb := rTest zSb (fTest p) rSib
def rSibs : Nat → Option ByteArray → Rdr (List Sb)
  | 0, _ => rNil []
  | n + 1, p => rMap (fun q : Sb × List Sb => q.1 :: q.2) (rSeq (zSb, []) (rSibT p) (fun x => rSibs n (some (eClk x.k))))
def eSibs : List Sb → ByteArray
  | [] => ⟨#[]⟩
  | x :: l => eSib x ++ eSibs l
def okSibs (n : Nat) (p : Option ByteArray) (l : List Sb) : Prop := l.length = n ∧ oGo p l = 0 ∧ ∀ x ∈ l, sbU x
def badSb : Sb := ⟨⟨[], false, ⟨⟨#[]⟩, 1⟩⟩, [], false, ⟨#[]⟩⟩
theorem badSb_no : ¬ okSib badSb := fun h => absurd h.1.1 (by decide)
def unconsS (l : List Sb) : Sb × List Sb := match l with
  | [] => (badSb, [])
  | x :: r => (x, r)
theorem sibT_codec (p : Option ByteArray) : Codec (rSibT p) (fun x => okSib x ∧ fTest p x = 0) eSib := sib_codec.test zSb (fTest p)
theorem okSib_U {x : Sb} : okSib x ↔ sCheck x = 0 ∧ sbU x := by
  constructor
  · intro h
    exact ⟨h.zero, h.1.2⟩
  · rintro ⟨h1, h2⟩
    exact (okSib_iff h2.1 h2.2).2 h1
theorem sibs_codec : ∀ (n : Nat) (p : Option ByteArray), Codec (rSibs n p) (okSibs n p) eSibs
  | 0, p => by
    refine (Codec.nil ([] : List Sb)).weak (fun v => ?_) (fun v hv => ?_)
    · exact ⟨fun h => List.eq_nil_of_length_eq_zero h.1, fun h => by subst h; exact ⟨rfl, rfl, fun x hx => by cases hx⟩⟩
    · rw [hv]; rfl
  | n + 1, p => by
    have c := ((sibT_codec p).seq (zSb, []) (B := fun x => rSibs n (some (eClk x.k))) (okB := fun x => okSibs n (some (eClk x.k))) (encB := fun _ => eSibs) (fun x _ => sibs_codec n (some (eClk x.k))))
    have c2 := c.map (fun q : Sb × List Sb => q.1 :: q.2) unconsS (fun _ _ => rfl) (fun u hu => by
      cases u with
      | nil => exact absurd hu.1.1 badSb_no
      | cons x r => rfl)
    refine c2.weak (fun v => ?_) (fun v hv => ?_)
    · cases v with
      | nil => exact ⟨fun h => absurd h.1 (by simp), fun h => absurd h.1.1 badSb_no⟩
      | cons x r =>
        show okSibs (n + 1) p (x :: r) ↔ (okSib x ∧ fTest p x = 0) ∧ okSibs n (some (eClk x.k)) r
        unfold okSibs
        rw [oGo, List.length_cons, okSib_U]
        constructor
        · rintro ⟨h1, h2, h3⟩
          by_cases h0 : oOne p x = 0
          · rw [if_pos h0] at h2
            obtain ⟨o1, o2⟩ := oOne_zero.1 h0
            exact ⟨⟨⟨o1, h3 x List.mem_cons_self⟩, o2⟩, by omega, h2, fun y hy => h3 y (List.mem_cons_of_mem _ hy)⟩
          · rw [if_neg h0] at h2; exact absurd h2 h0
        · rintro ⟨⟨⟨h0, hx⟩, ht⟩, h1, h2, h3⟩
          rw [if_pos (oOne_zero.2 ⟨h0, ht⟩)]
          refine ⟨by omega, h2, fun y hy => ?_⟩
          rcases List.mem_cons.1 hy with rfl | hy
          · exact hx
          · exact h3 y hy
    · cases v with
      | nil => exact absurd hv.1.1 badSb_no
      | cons x r => rfl
def rObT : Rdr (Nat × List Sb) := rSeq (0, []) rNs (fun n => rSibs n none)
def rOb : Rdr Ob := rMap (fun q : ByteArray × (Nat × List Sb) => (⟨q.1, q.2.2⟩ : Ob)) (rSeq (⟨#[]⟩, (0, [])) rKey (fun _ => rObT))
def eOb (o : Ob) : ByteArray := bEncT o.key ++ (vText o.l.length ++ eSibs o.l)
theorem ob_codec : Codec rOb okOb eOb := by
  have cT : Codec rObT (fun q : Nat × List Sb => ((q.1 < 18446744073709551616 ∧ (q.1 : Int) ≤ pMax 16) ∧ nTest q.1 = 0) ∧ okSibs q.1 none q.2) (fun q => vText q.1 ++ eSibs q.2) :=
    ((count_codec 16).test 0 nTest).seq (B := fun n => rSibs n none) (okB := fun n => okSibs n none) (encB := fun _ => eSibs) (0, []) (fun n _ => sibs_codec n none)
  have c := (((blob_codec 128).test ⟨#[]⟩ kyTest).seq (B := fun _ => rObT) (okB := fun _ (q : Nat × List Sb) => ((q.1 < 18446744073709551616 ∧ (q.1 : Int) ≤ pMax 16) ∧ nTest q.1 = 0) ∧ okSibs q.1 none q.2) (encB := fun _ (q : Nat × List Sb) => vText q.1 ++ eSibs q.2) (⟨#[]⟩, (0, [])) (fun _ _ => cT)).map (fun q : ByteArray × (Nat × List Sb) => (⟨q.1, q.2.2⟩ : Ob)) (fun o => (o.key, (o.l.length, o.l))) (fun v hv => by
    obtain ⟨k, n, l⟩ := v
    have h : l.length = n := hv.2.2.1
    rw [h]) (fun _ _ => rfl)
  refine c.weak (fun o => ?_) (fun _ _ => rfl)
  show okOb o ↔ ((o.key.size < 18446744073709551616 ∧ (o.key.size : Int) ≤ pMax 128) ∧ kyTest o.key = 0) ∧ (((o.l.length < 18446744073709551616 ∧ (o.l.length : Int) ≤ pMax 16) ∧ nTest o.l.length = 0) ∧ okSibs o.l.length none o.l)
  unfold okOb okSibs
  rw [pMax128, pMax16, oCheck_zero, outS_zero, oGo_zero]
  unfold kyTest nTest
  constructor
  · rintro ⟨⟨⟨h1, h2, h3, h4⟩, hg⟩, hn⟩
    rw [if_neg (by omega), if_neg (by omega)]
    exact ⟨⟨⟨by omega, by omega⟩, rfl⟩, ⟨⟨by omega, by omega⟩, rfl⟩, rfl, ⟨hg, fun q e => by cases e⟩, hn⟩
  · rintro ⟨⟨⟨_, h1⟩, h2⟩, ⟨⟨_, h3⟩, h4⟩, _, ⟨hg, _⟩, hn⟩
    have h2' : o.key.size ≠ 0 := fun e => by rw [if_pos e] at h2; exact absurd h2 (by decide)
    have h4' : o.l.length ≠ 0 := fun e => by rw [if_pos e] at h4; exact absurd h4 (by decide)
    exact ⟨⟨⟨by omega, by omega, by omega, by omega⟩, hg⟩, hn⟩
def liftS (O : List Sb) (r : List Sb × Int × Int) : List Sb × Int × Int := if r.2.2 = 0 then (O ++ r.1, r.2) else ([], r.2)
theorem sibs_zero (p : Option ByteArray) (s : ByteArray) (a : Int) (O : List Sb) : liftS O (rSibs 0 p s a) = (O, a, 0) := by
  show liftS O ([], a, 0) = _
  unfold liftS
  rw [if_pos rfl, List.append_nil]
theorem sibs_bad {n : Nat} {p : Option ByteArray} {s : ByteArray} {a : Int} (O : List Sb) (h : (rSibT p s a).2.2 ≠ 0) : liftS O (rSibs (n + 1) p s a) = ([], (rSibT p s a).2) := by
  have e : (rSibs (n + 1) p s a).2 = (rSibT p s a).2 := by
    show (rSeq (zSb, []) (rSibT p) (fun x => rSibs n (some (eClk x.k))) s a).2 = _
    rw [rSeq_no h]
  unfold liftS
  rw [if_neg (by rw [e]; exact h), e]
theorem sibs_more {n : Nat} {p : Option ByteArray} {s : ByteArray} {a : Int} (O : List Sb) (h : (rSibT p s a).2.2 = 0) : liftS O (rSibs (n + 1) p s a) = liftS (O ++ [(rSibT p s a).1]) (rSibs n (some (eClk (rSibT p s a).1.k)) s (rSibT p s a).2.1) := by
  by_cases h1 : (rSibs n (some (eClk (rSibT p s a).1.k)) s (rSibT p s a).2.1).2.2 = 0
  · have e : rSibs (n + 1) p s a = ((rSibT p s a).1 :: (rSibs n (some (eClk (rSibT p s a).1.k)) s (rSibT p s a).2.1).1, (rSibs n (some (eClk (rSibT p s a).1.k)) s (rSibT p s a).2.1).2) := by
      show rMap (fun q : Sb × List Sb => q.1 :: q.2) (rSeq (zSb, []) (rSibT p) (fun x => rSibs n (some (eClk x.k)))) s a = _
      unfold rMap
      rw [rSeq_yes h h1]
    unfold liftS
    rw [e, if_pos h1, if_pos h1, List.append_assoc]
    rfl
  · have e : (rSibs (n + 1) p s a).2 = (rSibs n (some (eClk (rSibT p s a).1.k)) s (rSibT p s a).2.1).2 := by
      show (rSeq (zSb, []) (rSibT p) (fun x => rSibs n (some (eClk x.k))) s a).2 = _
      rw [rSeq_mid h h1]
    unfold liftS
    rw [e, if_neg h1, if_neg h1]
section
variable {s : ByteArray} {a : Int}
theorem sibT_a {p : Option ByteArray} (h : (rSib s a).2.2 ≠ 0) : (rSibT p s a).2 = (rSib s a).2 := by unfold rSibT; rw [rTest_no h]
theorem sibT_b {p : Option ByteArray} (h : (rSib s a).2.2 = 0) (h1 : fTest p (rSib s a).1 ≠ 0) : (rSibT p s a).2 = ((rSib s a).2.1, fTest p (rSib s a).1) := by unfold rSibT; rw [rTest_bad h h1]
theorem sibT_c {p : Option ByteArray} (h : (rSib s a).2.2 = 0) (h1 : fTest p (rSib s a).1 = 0) : rSibT p s a = rSib s a := by unfold rSibT; rw [rTest_yes h h1]
theorem ob_1 (h : bErr s a 0 128 ≠ 0) : rOb s a = (zOb, bAt s a 0 128, bErr s a 0 128) := by
  have e : rKey s a = (⟨#[]⟩, bAt s a 0 128, bErr s a 0 128) := by unfold rKey; rw [rTest_no (show (rBlob 128 s a).2.2 ≠ 0 from h)]; rfl
  show rMap _ (rSeq (⟨#[]⟩, (0, [])) rKey (fun _ => rObT)) s a = _
  unfold rMap
  rw [rSeq_no (by rw [e]; exact h), e]
  rfl
theorem ob_2 (h : bErr s a 0 128 = 0) (h1 : (bTxt s a 0 128).size = 0) : rOb s a = (zOb, bAt s a 0 128, 14) := by
  have ht : kyTest (rBlob 128 s a).1 = 14 := if_pos h1
  have e : rKey s a = (⟨#[]⟩, bAt s a 0 128, 14) := by unfold rKey; rw [rTest_bad (show (rBlob 128 s a).2.2 = 0 from h) (by rw [ht]; decide), ht]; rfl
  show rMap _ (rSeq (⟨#[]⟩, (0, [])) rKey (fun _ => rObT)) s a = _
  unfold rMap
  rw [rSeq_no (by rw [e]; show (14 : Int) ≠ 0; decide), e]
  rfl
theorem ob_rest {K : ByteArray} {b : Int} (h : rKey s a = (K, b, 0)) : rOb s a = if (rObT s b).2.2 = 0 then ((⟨K, (rObT s b).1.2⟩ : Ob), (rObT s b).2) else (zOb, (rObT s b).2) := by
  show rMap _ (rSeq (⟨#[]⟩, (0, [])) rKey (fun _ => rObT)) s a = _
  unfold rMap
  by_cases h1 : (rObT s b).2.2 = 0
  · rw [rSeq_yes (by rw [h]) (by rw [h]; exact h1), if_pos h1, h]
  · rw [rSeq_mid (by rw [h]) (by rw [h]; exact h1), if_neg h1, h]
    rfl
variable {b : Int}
theorem obT_1 (h : kErr s b 0 16 ≠ 0) : (rObT s b).2 = (tAt s b 0, kErr s b 0 16) := by
  have e : (rNs s b).2 = (tAt s b 0, kErr s b 0 16) := by unfold rNs; rw [rTest_no (show (rCount 16 s b).2.2 ≠ 0 from h)]; rfl
  unfold rObT
  rw [rSeq_no (by rw [e]; exact h), e]
theorem obT_2 (h : kErr s b 0 16 = 0) (h1 : kNum s b 0 16 = 0) : (rObT s b).2 = (tAt s b 0, 7) := by
  have ht : nTest (rCount 16 s b).1 = 7 := by show nTest (kNum s b 0 16).toNat = 7; rw [h1]; rfl
  have e : (rNs s b).2 = (tAt s b 0, 7) := by unfold rNs; rw [rTest_bad (show (rCount 16 s b).2.2 = 0 from h) (by rw [ht]; decide), ht]; rfl
  unfold rObT
  rw [rSeq_no (by rw [e]; show (7 : Int) ≠ 0; decide), e]
theorem obT_3 (h : kErr s b 0 16 = 0) (h1 : kNum s b 0 16 ≠ 0) : (rObT s b).1.2 = (liftS [] (rSibs (kNum s b 0 16).toNat none s (tAt s b 0))).1 ∧ (rObT s b).2 = (liftS [] (rSibs (kNum s b 0 16).toNat none s (tAt s b 0))).2 := by
  have hb := kNum_bd s b 0 16
  have ht : nTest (rCount 16 s b).1 = 0 := by show nTest (kNum s b 0 16).toNat = 0; unfold nTest; rw [if_neg (by omega)]
  have e : rNs s b = ((kNum s b 0 16).toNat, tAt s b 0, 0) := by
    unfold rNs
    rw [rTest_yes (show (rCount 16 s b).2.2 = 0 from h) ht]
    show (_, _, kErr s b 0 16) = _
    rw [h]
  unfold rObT liftS
  by_cases h2 : (rSibs (kNum s b 0 16).toNat none s (tAt s b 0)).2.2 = 0
  · rw [rSeq_yes (by rw [e]) (by rw [e]; exact h2), if_pos h2, e]
    exact ⟨rfl, rfl⟩
  · rw [rSeq_mid (by rw [e]) (by rw [e]; exact h2), if_neg h2, e]
    exact ⟨rfl, rfl⟩
end
def pOb (M : Int) (p : ByteArray × Int) (o : Ob) : ByteArray × Int := if oCheck o = 0 then pSibs M (pOne M (wPut M 128 p o.key) (vText o.l.length)) o.l else (p.1, pFail p.2 (oCheck o))
theorem pOb_yes {M : Int} {p : ByteArray × Int} {o : Ob} (h : oCheck o = 0) : pOb M p o = pSibs M (pOne M (wPut M 128 p o.key) (vText o.l.length)) o.l := if_pos h
theorem Wr.sibs : ∀ {l : List Sb}, (∀ x ∈ l, okSib x) → Wr (fun M p => pSibs M p l) (eSibs l)
  | [], _ => Wr.nil
  | x :: _, h => (Wr.sib (h x List.mem_cons_self)).seq (Wr.sibs (fun y hy => h y (List.mem_cons_of_mem _ hy)))
theorem Wr.ob {o : Ob} (h : okOb o) : Wr (fun M p => pOb M p o) (eOb o) := by
  obtain ⟨h1, h2⟩ := oCheck_zero.1 h.1
  have h1 := outS_zero.1 h1
  have e : (fun (M : Int) (p : ByteArray × Int) => pOb M p o) = (fun M p => pSibs M (pOne M (wPut M 128 p o.key) (vText o.l.length)) o.l) := by
    funext M p
    exact pOb_yes h.1
  rw [e]
  have c := ((Wr.blob (m := 128) (s := o.key) (by rw [pMax128]; omega)).seq (Wr.one (vText o.l.length))).seq (Wr.sibs (fun x hx => okSib_U.2 ⟨h2.1 x hx, h.2 x hx⟩))
  refine c.eq ?_
  unfold eOb
  rw [ByteArray.append_assoc]
def decO (s : ByteArray) : Ob × Int := dec zOb rOb s
end Go.Proofs.YtoefibkhlhmlfaaGreat
namespace Go.Proofs.YtoefibkhlhmlfaaGreat
open Go.RowKit
def REnsE (p : List En × Int) (w : World) (e : Ending) (w' : World) : Prop := ∃ ao cap, e = .returned (.tuple #[.slice ao p.1.length cap, .int .i64 p.2]) ∧ EnsAt w' ao p.1 ∧ (∀ g off m, ao = some ⟨g, off, m⟩ → w.heap.size ≤ g) ∧ Keep0 w w'
theorem REnsE.mk {p : List En × Int} {w w' : World} {e : Ending} {ao : Option Addr} {cap : Nat} (h : e = .returned (.tuple #[.slice ao p.1.length cap, .int .i64 p.2])) (h1 : EnsAt w' ao p.1) (h2 : ∀ g off m, ao = some ⟨g, off, m⟩ → w.heap.size ≤ g) (h3 : Keep0 w w') : REnsE p w e w' := ⟨ao, cap, h, h1, h2, h3⟩
theorem REnsE.bare {p : List En × Int} {w w' : World} {e : Ending} {E : Int} (hp : p = ([], E)) (h : e = .returned (.tuple #[.slice none 0 0, .int .i64 E])) (h3 : Keep0 w w') : REnsE p w e w' := by
  subst hp
  exact ⟨none, 0, h, ens_nil _ _, (fun _ _ _ e => by cases e), h3⟩
def VecsAt (w : World) (ao : Option Addr) (ls : List (List En)) : Prop := ∀ i (_ : i < ls.length), ∃ b off bo c, ao = some ⟨b, off, none⟩ ∧ w.cell? ⟨b, off + i, none⟩ = some (.slice bo ls[i].length c) ∧ EnsAt w bo ls[i]
theorem VecsAt.keep0 {w w' : World} {ao : Option Addr} {ls : List (List En)} (h : VecsAt w ao ls) (K : Keep0 w w') : VecsAt w' ao ls := by
  intro i hi
  obtain ⟨b, off, bo, c, e, h1, h2⟩ := h i hi
  exact ⟨b, off, bo, c, e, K.cell h1 (fun f => f), h2.keep0 K⟩
end Go.Proofs.YtoefibkhlhmlfaaGreat
