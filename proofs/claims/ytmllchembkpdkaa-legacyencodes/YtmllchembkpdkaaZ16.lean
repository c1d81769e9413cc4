/-
  What this seat's claims lean on of the texts Dcode, Pcode, DMem.
  Conditions: as each theorem states.
-/
import Derived.WalkKit
import Derived.ProofKit
import Derived.Below
import Derived.Deep.Draws
import Derived.Deep.RegionHeld
import Derived.Test.YtmllchembkpdkaaChecked
import Derived.OpenShut
import Derived.ShutString
import Derived.WalkSpells
import Derived.WalkLawsBesides
import Derived.Deep.QuietTactic
import Derived.BigQuiet
import Derived.Laws.Bits64b
import Derived.PlainAid
import Derived.Lib.AppendStr
import Derived.Deep.AppendLies
import Derived.Laws.IdiomStrings
import Derived.Laws.BytesArg
import Derived.Deep.RegionWith
import Derived.Test.YtmllchembkpdkaaZ12
import Derived.Test.YtmllchembkpdkaaZ9
import Derived.Test.YtmllchembkpdkaaZ13
import Derived.Laws.AppendOwn
import Derived.Deep.DeepAppendWide
import Derived.Deep.Upon
import Derived.Test.YtmllchembkpdkaaZ15
namespace Go.Proofs.Ytmllchembkpdkaa
open Go.RowKit
def rFlag : Rdr Bool := fun s a => (gSet s a 0, cAt s a 0 1, gErr s a 0)
def eFlag (b : Bool) : ByteArray := one (flagByte b)
theorem eFlag_size (b : Bool) : (eFlag b).size = 1 := one_size _
theorem flag_short {s : ByteArray} {a : Int} (h : ¬ a < s.size) : gErr s a 0 = 2 ∧ cAt s a 0 1 = a ∧ gSet s a 0 = false := by
  have hb : cByte s a 0 = 0 := if_neg (fun e => h e.2)
  have he : cErr s a 0 1 = 2 := cErr_short (by decide) (by omega)
  refine ⟨?_, if_neg (by omega), ?_⟩
  · unfold gErr
    rw [hb, if_neg (by decide), he]
  · unfold gSet
    rw [hb]
    rfl
theorem flag_long {s : ByteArray} {a : Int} (h : a < s.size) : cAt s a 0 1 = a + 1 ∧ gErr s a 0 = (if 1 < cByte s a 0 then 13 else 0) := by
  have he : cErr s a 0 1 = 0 := cErr_fit (by decide) (by omega)
  refine ⟨cAt_fit (by decide) (by omega), ?_⟩
  unfold gErr
  rw [he]
  rfl
theorem flag_codec : Codec rFlag (fun _ => True) eFlag where
  place := by
    intro s a h0 h1
    show a ≤ cAt s a 0 1 ∧ cAt s a 0 1 ≤ s.size
    by_cases h : a < s.size
    · rw [(flag_long h).1]; omega
    · rw [(flag_short h).2.1]; omega
  back := by
    intro v t r _
    obtain ⟨h1, h2, h3⟩ := flag_back (rfl : t ++ (one (flagByte v) ++ r) = _)
    show (gSet (t ++ (one (flagByte v) ++ r)) t.size 0, cAt (t ++ (one (flagByte v) ++ r)) t.size 0 1, gErr (t ++ (one (flagByte v) ++ r)) t.size 0) = (v, (t.size : Int) + (eFlag v).size, 0)
    rw [h1, h2, h3, eFlag_size]
    rfl
  read := by
    intro s a h0 h1 h
    refine ⟨trivial, ?_⟩
    have h : gErr s a 0 = 0 := h
    show cut s a (cAt s a 0 1) = eFlag (gSet s a 0)
    by_cases hl : a < s.size
    · obtain ⟨e1, e2⟩ := flag_long hl
      rw [e2] at h
      have hb : ¬ 1 < cByte s a 0 := fun e => by rw [if_pos e] at h; exact absurd h (by decide)
      have hb0 : 0 ≤ cByte s a 0 := by unfold cByte; rw [if_pos ⟨rfl, hl⟩]; omega
      rw [e1, cut_byte h0 hl]
      unfold eFlag gSet
      have : cByte s a 0 = 0 ∨ cByte s a 0 = 1 := by omega
      rcases this with e | e <;> rw [e] <;> rfl
    · rw [(flag_short hl).1] at h
      exact absurd h (by decide)
  app := by
    intro s y a h0 h1
    by_cases hl : a < s.size
    · right
      have hl2 : a < (s ++ y).size := by rw [ByteArray.size_append]; omega
      have eb : cByte (s ++ y) a 0 = cByte s a 0 := by
        unfold cByte
        rw [if_pos ⟨rfl, hl2⟩, if_pos ⟨rfl, hl⟩, byteAt_app (by omega)]
      unfold rFlag
      rw [(flag_long hl).1, (flag_long hl).2, (flag_long hl2).1, (flag_long hl2).2, eb]
      unfold gSet
      rw [eb]
    · exact Or.inl (flag_short hl).1
def dTest (v : List En) (x : En) : Int := if x.n ≤ vCount v x.a then 15 else 0
def zEn : En := ⟨⟨#[]⟩, 0⟩
def zCk : Ck := ⟨[], false, zEn⟩
def eTail (b : Bool) (x : En) : ByteArray := if b = true then eEnt x else ⟨#[]⟩
def eClk (k : Ck) : ByteArray := eVec k.c ++ (eFlag k.d ++ eTail k.d k.x)
def okTail (v : List En) (b : Bool) (x : En) : Prop := if b = true then (cOne none x = 0 ∧ U64 x.n) ∧ dTest v x = 0 else x = zEn
def okClk (k : Ck) : Prop := kCheck k = 0 ∧ (∀ x ∈ k.c, U64 x.n) ∧ U64 k.x.n
theorem zEn_of {x : En} (h : x.a.size = 0 ∧ x.n = 0) : x = zEn := En.eq (ByteArray.ext (Array.eq_empty_of_size_eq_zero h.1)) h.2
theorem okClk_iff (k : Ck) : okClk k ↔ okVec k.c ∧ True ∧ okTail k.c k.d k.x := by
  unfold okClk okVec okTail
  rw [right_iff]
  constructor
  · rintro ⟨h, h1, h2⟩
    refine ⟨⟨h.vec, h1⟩, trivial, ?_⟩
    cases hd : k.d with
    | true =>
      obtain ⟨a1, a2⟩ := h.dot hd
      rw [if_pos rfl]
      refine ⟨⟨cOne_zero.2 ⟨a1, fun q e => by cases e⟩, h2⟩, ?_⟩
      unfold dTest
      rw [if_neg (by omega)]
    | false =>
      rw [if_neg (by decide)]
      exact zEn_of (h.plain hd)
  · rintro ⟨⟨h1, h2⟩, _, h3⟩
    cases hd : k.d with
    | true =>
      rw [hd, if_pos rfl] at h3
      obtain ⟨⟨h4, h5⟩, h6⟩ := h3
      refine ⟨⟨h1, ((check_zero _).1 h1).2, (fun e => by rw [hd] at e; cases e), fun _ => ⟨(cOne_zero.1 h4).1, ?_⟩⟩, h2, h5⟩
      unfold dTest at h6
      by_cases h7 : k.x.n ≤ vCount k.c k.x.a
      · rw [if_pos h7] at h6; exact absurd h6 (by decide)
      · omega
    | false =>
      rw [hd, if_neg (by decide)] at h3
      refine ⟨⟨h1, ((check_zero _).1 h1).2, (fun _ => by rw [h3]; exact ⟨rfl, rfl⟩), fun e => by rw [hd] at e; cases e⟩, h2, by rw [h3]; show 0 < 18446744073709551616; omega⟩
def pTail (M : Int) (p : ByteArray × Int) (b : Bool) (x : En) : ByteArray × Int := if b = true then pEnt M p x else p
def pClk (M : Int) (p : ByteArray × Int) (k : Ck) : ByteArray × Int := if kCheck k = 0 then pTail M (wFlag M (pVec M p k.c) k.d) k.d k.x else (p.1, pFail p.2 (kCheck k))
theorem pClk_yes {M : Int} {p : ByteArray × Int} {k : Ck} (h : kCheck k = 0) : pClk M p k = pTail M (wFlag M (pVec M p k.c) k.d) k.d k.x := if_pos h
theorem wFlag_err {M : Int} {t : ByteArray} {x : Int} (h : x ≠ 0) (b : Bool) : wFlag M (t, x) b = (t, x) := pOne_err h
end Go.Proofs.Ytmllchembkpdkaa
namespace Go.Proofs.Ytmllchembkpdkaa
open Go.RowKit
def ePair (x : Pr) : ByteArray := bEncT x.n ++ bEncT x.v
theorem pMax15 : pMax 32768 = 32768 := rfl
def ePairs : List Pr → ByteArray
  | [] => ⟨#[]⟩
  | x :: l => ePair x ++ ePairs l
def ePrs (l : List Pr) : ByteArray := vText l.length ++ ePairs l
def pPair (M : Int) (q : ByteArray × Int) (x : Pr) : ByteArray × Int := wPut M 32768 (wPut M 32 q x.n) x.v
def pPairs (M : Int) (p : ByteArray × Int) (l : List Pr) : ByteArray × Int := l.foldl (pPair M) p
def pPrs (M : Int) (p : ByteArray × Int) (l : List Pr) : ByteArray × Int := if qCheck l = 0 then pPairs M (pOne M p (vText l.length)) l else (p.1, pFail p.2 (qCheck l))
theorem pPrs_yes {M : Int} {p : ByteArray × Int} {l : List Pr} (h : qCheck l = 0) : pPrs M p l = pPairs M (pOne M p (vText l.length)) l := if_pos h
end Go.Proofs.Ytmllchembkpdkaa
namespace Go.Proofs.Ytmllchembkpdkaa
open Go.RowKit
structure DAt (w : World) (g : Nat) (v0 v1 : Value) : Prop where
  blk : ∃ ty, w.heap[g]? = some (.cells #[v0, v1] ty)
section
variable {w : World} {g : Nat} {v0 v1 : Value}
theorem DAt.lt (h : DAt w g v0 v1) : g < w.heap.size := by
  obtain ⟨ty, hk⟩ := h.blk
  exact (Array.getElem?_eq_some_iff.mp hk).1
theorem DAt.cells (h : DAt w g v0 v1) : w.cell? ⟨g, 0, none⟩ = some v0 ∧ w.cell? ⟨g, 1, none⟩ = some v1 ∧ w.frozen? ⟨g, 0, none⟩ = false ∧ w.frozen? ⟨g, 1, none⟩ = false := by
  obtain ⟨ty, hk⟩ := h.blk
  simp [World.cell?, World.frozen?, hk]
theorem DAt.keep {R : Nat → Prop} {w' : World} (h : DAt w g v0 v1) (K : Keep R w w') (hn : ¬ R g) : DAt w' g v0 v1 := by
  obtain ⟨ty, hk⟩ := h.blk
  exact ⟨ty, by rw [K.block g h.lt hn]; exact hk⟩
theorem DAt.keep0 {w' : World} (h : DAt w g v0 v1) (K : Keep0 w w') : DAt w' g v0 v1 := h.keep K (fun f => f)
theorem DAt.new (w : World) (ty : TypeId) (v0 v1 : Value) : DAt (w.alloc (.cells #[v0, v1] ty)) w.heap.size v0 v1 := ⟨ty, (MapKept.heap_alloc w _).1⟩
theorem DAt.set0 (h : DAt w g v0 v1) (u : Value) : DAt (w.setCell ⟨g, 0, none⟩ u) g u v1 := by
  obtain ⟨ty, hk⟩ := h.blk
  exact ⟨ty, by rw [heap_setCell_at hk]; rfl⟩
theorem DAt.set1 (h : DAt w g v0 v1) (u : Value) : DAt (w.setCell ⟨g, 1, none⟩ u) g v0 u := by
  obtain ⟨ty, hk⟩ := h.blk
  exact ⟨ty, by rw [heap_setCell_at hk]; rfl⟩
theorem DAt.put (h : DAt w g v0 v1) (u0 u1 : Value) : DAt ((w.setCell ⟨g, 0, none⟩ u0).setCell ⟨g, 1, none⟩ u1) g u0 u1 := (h.set0 u0).set1 u1
end
theorem put2_keep (w : World) (g : Nat) (u0 u1 : Value) : Keep1 g w ((w.setCell ⟨g, 0, none⟩ u0).setCell ⟨g, 1, none⟩ u1) := ((Keep.refl _ w).set1 _ _).set1 _ _
end Go.Proofs.Ytmllchembkpdkaa
