/-
  What this seat's claims lean on of the texts Open15, Law15.
  Conditions: as each theorem states.
-/
import Derived.Test.YtfpahdnhnhkcdaaChecked
import Derived.WalkKit
import Derived.ProofKit
import Derived.Below
import Derived.Deep.Draws
import Derived.Deep.RegionHeld
import Derived.OpenShut
import Derived.ShutString
import Derived.WalkSpells
import Derived.WalkLawsBesides
import Derived.Deep.QuietTactic
import Derived.BigQuiet
import Derived.Deep.Slices
import Derived.Laws.Bits64b
import Derived.PlainAid
import Derived.Lib.AppendStr
import Derived.Deep.AppendLies
import Derived.Laws.IdiomStrings
import Derived.Laws.BytesArg
import Derived.Deep.RegionWith
import Derived.Laws.AppendOwn
import Derived.Deep.DeepAppendWide
import Derived.Deep.Upon
import Derived.Laws.Rows
import Derived.Test.YtfpahdnhnhkcdaaZ26
import Derived.Test.YtfpahdnhnhkcdaaZ20
import Derived.Test.YtfpahdnhnhkcdaaZ23
import Derived.Test.YtfpahdnhnhkcdaaZ2
namespace Go.Proofs.Ytfpahdnhnhkcdaa
open Go.RowKit Go.WideShapes Go.ChangeShapes
structure Sbl (w : World) where
  vo : Option Addr
  vc : Nat
  po : Option Addr
  pc : Nat
  x : Sb
  fits : FitsS x
  at_ : SibIn w vo po pc x
def Sbl.cs {w : World} (c : Sbl w) : List Value := [.slice c.vo c.x.k.c.length c.vc, .bool c.x.k.d, .string c.x.k.x.a, .int .u64 (c.x.k.x.n : Int), .slice c.po c.x.m.length c.pc, .bool c.x.d, .string c.x.v]
set_option maxRecDepth 100000 in
theorem rd_sib {H : Type} {enc : TypeId × Value → H} {w : World} {cs : List Value} (h : Rd enc w 30 cs) : ∃ c : Sbl w, cs = c.cs := by
  obtain ⟨hl, hf⟩ := rd_struct Try.underlying30 h
  have hl7 : cs.length = 7 := hl.trans (by kernel_rfl)
  match cs, hl7 with
  | [v0, v1, v2, v3, v4, v5, v6], _ =>
    have g0 := hf 0 _ rfl
    have g1 := hf 1 _ rfl
    have g2 := hf 2 _ rfl
    have g3 := hf 3 _ rfl
    have c0 : Try.prog.cellsOf 27 = 4 := by kernel_rfl
    have c1 : Try.prog.cellsOf 28 = 1 := by kernel_rfl
    have c2 : Try.prog.cellsOf 4 = 1 := by kernel_rfl
    have c3 : Try.prog.cellsOf 9 = 1 := by kernel_rfl
    simp [c0, c1, c2, c3] at g0 g1 g2 g3
    obtain ⟨c, e0⟩ := rd_clock g0
    obtain ⟨po, pc, l, e1, hfl, ha⟩ := rd_prs g1
    have hcp : CapP l pc := by rw [e1] at g1; exact rd_cap Try.underlying28 g1
    obtain ⟨d, e2⟩ := rd_bool Try.underlying4 g2
    obtain ⟨v, e3, hv⟩ := rd_string Try.underlying9 g3
    simp [Clk.cs] at e0 e1 e2 e3
    refine ⟨⟨c.ao, c.cap, po, pc, ⟨c.k, l, d, v⟩, ⟨c.fits, hfl, hv⟩, ⟨c.at_, ha, hcp⟩⟩, ?_⟩
    show [v0, v1, v2, v3, v4, v5, v6] = [Value.slice c.ao c.k.c.length c.cap, .bool c.k.d, .string c.k.x.a, .int .u64 (c.k.x.n : Int), .slice po l.length pc, .bool d, .string v]
    rw [e0.1, e0.2.1, e0.2.2.1, e0.2.2.2, e1, e2, e3]
set_option maxRecDepth 100000 in
theorem open_sib {H : Type} {enc : TypeId × Value → H} {W : World} {base : Nat} {v : Value} {d : DataW H} {p : List MemPlace}
    (hv : Value.okWide Try.prog W .any base 30 v) (h : DataW.Trod enc Try.prog W 0 (fun _ => true) true 30 v d p) :
    ∃ (vo : Option Addr) (vc : Nat) (po : Option Addr) (pc : Nat) (x : Sb), v = .agg #[.slice vo x.k.c.length vc, .bool x.k.d, .string x.k.x.a, .int .u64 (x.k.x.n : Int), .slice po x.m.length pc, .bool x.d, .string x.v] ∧ FitsS x ∧ SibIn W vo po pc x := by
  unfold Value.okWide at hv
  rw [Try.underlying30] at hv
  obtain ⟨cs, rfl, _, _⟩ := hv
  obtain ⟨c, h1⟩ := rd_sib (rd_of_trod h)
  have h3 : cs.toList = c.cs := h1
  refine ⟨c.vo, c.vc, c.po, c.pc, c.x, ?_, c.fits, c.at_⟩
  have h4 : cs = #[.slice c.vo c.x.k.c.length c.vc, .bool c.x.k.d, .string c.x.k.x.a, .int .u64 (c.x.k.x.n : Int), .slice c.po c.x.m.length c.pc, .bool c.x.d, .string c.x.v] := Array.toList_inj.1 h3
  rw [h4]
set_option maxRecDepth 100000 in
theorem open_sibs {H : Type} {enc : TypeId × Value → H} {W : World} {base : Nat} {v : Value} {d : DataW H} {p : List MemPlace}
    (hv : Value.okWide Try.prog W .any base 49 v) (h : DataW.Trod enc Try.prog W 0 (fun _ => true) true 49 v d p) :
    ∃ (ao : Option Addr) (cap : Nat) (l : List Sb), v = .slice ao l.length cap ∧ l.length ≤ maxLen ∧ (∀ x ∈ l, FitsS x) ∧ SibsAt W ao l := by
  obtain ⟨ao', len', cap', rfl⟩ := okWide_slice Try.underlying49 hv
  obtain ⟨ao, cap, es, h1, h2, h3, h4⟩ := rd_slice Try.underlying49 (by kernel_rfl : Try.prog.cellsOf 30 = 7) (by decide) (rd_of_trod h)
  have hl : ∀ es : List (List Value), (∀ x ∈ es, ∃ c : Sbl W, x = c.cs) → ∃ l : List (Sbl W), es = l.map Sbl.cs := by
    intro es
    induction es with
    | nil => exact fun _ => ⟨[], rfl⟩
    | cons x es ih =>
      intro h
      obtain ⟨a, rfl⟩ := h x (by simp)
      obtain ⟨l, rfl⟩ := ih (fun y hy => h y (by simp [hy]))
      exact ⟨a :: l, rfl⟩
  obtain ⟨l, rfl⟩ := hl es (fun x hx => rd_sib (h4 x hx))
  have h1' : Value.slice ao' len' cap' = .slice ao l.length cap := by simpa [Value.cells] using h1
  refine ⟨ao, cap, l.map Sbl.x, by rw [h1', List.length_map], by rw [List.length_map]; simpa using h2, ?_, fun i hi => ?_⟩
  · intro k hk
    obtain ⟨c, _, rfl⟩ := List.mem_map.1 hk
    exact c.fits
  · have hi' : i < l.length := by simpa using hi
    obtain ⟨b, off, e1, e2, e3⟩ := h3.cell i (by simpa using hi')
    refine ⟨b, off, l[i].vo, l[i].vc, l[i].po, l[i].pc, e1, ?_, ?_⟩
    · rw [List.getElem_map]
      refine ⟨?_, ?_, ?_, ?_, ?_, ?_, ?_⟩
      · simpa [Sbl.cs] using e3 0 (by simp [Sbl.cs])
      · simpa [Sbl.cs] using e3 1 (by simp [Sbl.cs])
      · simpa [Sbl.cs] using e3 2 (by simp [Sbl.cs])
      · simpa [Sbl.cs] using e3 3 (by simp [Sbl.cs])
      · simpa [Sbl.cs] using e3 4 (by simp [Sbl.cs])
      · simpa [Sbl.cs] using e3 5 (by simp [Sbl.cs])
      · simpa [Sbl.cs] using e3 6 (by simp [Sbl.cs])
    · rw [List.getElem_map]
      exact l[i].at_
end Go.Proofs.Ytfpahdnhnhkcdaa
namespace Go.Proofs.Ytfpahdnhnhkcdaa
open Go.RowKit
structure Ok15 (x : Sb) : Prop where
  len : x.k.c.length ≤ 10000
  mlen : x.m.length ≤ 10000
  fit : FitsS x
  vec : ∀ y ∈ x.k.c, y.a.size ≤ 1000000
  dot : x.k.x.a.size ≤ 1000000
  prs : ∀ y ∈ x.m, y.n.size ≤ 1000000 ∧ y.v.size ≤ 1000000
  val : x.v.size ≤ 1000000
theorem Ok15.u64 {x : Sb} (h : Ok15 x) : (∀ y ∈ x.k.c, U64 y.n) ∧ U64 x.k.x.n := ⟨fun y hy => (h.fit.clk.vec.2 y hy).2, h.fit.clk.num⟩
theorem okSib.ok {x : Sb} (h : okSib x) : Ok15 x := by
  have hR := (right_iff _).1 h.1.1
  have h1 := (check_zero _).1 hR.vec
  obtain ⟨h2, h3⟩ := (qCheck_zero _).1 h.2.1
  refine ⟨by omega, by omega, ⟨⟨⟨by unfold maxLen; omega, fun y hy => ⟨by have := (hR.good.1 y hy).2.1; unfold maxLen; omega, h.1.2.1 y hy⟩⟩, ?_, h.1.2.2⟩, ⟨by unfold maxLen; omega, fun y hy => by have := h3.1 y hy; unfold Pr.ok at this; unfold maxLen; omega⟩, by have := h.2.2; unfold maxLen; omega⟩, fun y hy => by have := (hR.good.1 y hy).2.1; omega, ?_, fun y hy => by have := h3.1 y hy; unfold Pr.ok at this; omega, by have := h.2.2; omega⟩
  · cases hd : x.k.d with
    | true => have := (hR.dot hd).1.2.1; unfold maxLen; omega
    | false => have := (hR.plain hd).1; omega
  · cases hd : x.k.d with
    | true => have := (hR.dot hd).1.2.1; omega
    | false => have := (hR.plain hd).1; omega
theorem sGreat_ok {x : Sb} (f : FitsS x) (h : sGreat x = false) : Ok15 x := by
  obtain ⟨q1, q2, q3⟩ := sGreat_no h
  unfold kGreat at q1
  rw [Bool.or_eq_false_iff] at q1
  have q4 := of_decide_eq_false q1.2
  exact ⟨by have := (great_no q1.1).1; omega, by have := (greatq_no q2).1; omega, f, fun y hy => by have := (great_no q1.1).2 y hy; omega, by omega, fun y hy => by have := (greatq_no q2).2 y hy; omega, by omega⟩
theorem zSb_ok : Ok15 zSb := ⟨by show 0 ≤ 10000; omega, by show 0 ≤ 10000; omega, ⟨⟨⟨by show 0 ≤ maxLen; omega, fun x hx => by cases hx⟩, by show 0 ≤ maxLen; omega, by show 0 < 18446744073709551616; omega⟩, ⟨by show 0 ≤ maxLen; omega, fun x hx => by cases hx⟩, by show 0 ≤ maxLen; omega⟩, (fun _ h => by cases h), by show 0 ≤ 1000000; omega, (fun _ h => by cases h), by show 0 ≤ 1000000; omega⟩
def SibsBy (w : World) (b r : Nat) (ao : Option Addr) (l : List Sb) : Prop := ∀ i (_ : i < l.length), ∃ bb off vo vc po pc, ao = some ⟨bb, off, none⟩ ∧ ¬ two b r bb ∧ SibAt w bb (off + i * 7) l[i] vo vc po pc ∧ SibIn w vo po pc l[i] ∧ (0 < l[i].k.c.length → ApartE (two b r) vo) ∧ (0 < l[i].m.length → ApartE (two b r) po)
theorem SibsBy.old {w0 w : World} {b r : Nat} {ao : Option Addr} {l : List Sb} (h : SibsAt w0 ao l) (k : Keep0 w0 w) (hb : w0.heap.size ≤ b) (hr : w0.heap.size ≤ r) : SibsBy w b r ao l := by
  intro i hi
  obtain ⟨bb, off, vo, vc, po, pc, e, h1, h2⟩ := h i hi
  have hbB := World.block_lt_of_cell? w0 _ h1.c0
  simp only at hbB
  refine ⟨bb, off, vo, vc, po, pc, e, by unfold two; omega, h1.keep0 k, h2.keep0 k, fun hl g o m e' hh => ?_, fun hl g o m e' hh => ?_⟩
  · have := ens_old h2.ens hl g o m e'
    unfold two at hh
    omega
  · have := prs_old h2.prs hl g o m e'
    unfold two at hh
    omega
def RCopy (x : Sb) (w : World) (e : Ending) (w' : World) : Prop := ∃ vo vc po pc, e = .returned (.agg #[.slice vo x.k.c.length vc, .bool x.k.d, .string x.k.x.a, .int .u64 (x.k.x.n : Int), .slice po x.m.length pc, .bool x.d, .string x.v]) ∧ w'.ownsRow w.heap.size 25 2 (.slice vo x.k.c.length vc) x.k.c.length (enCells x.k.c) ∧ w'.ownsRow w.heap.size 43 2 (.slice po x.m.length pc) x.m.length (prCells x.m) ∧ Keep0 w w'
structure SibCode : Prop where
  check : ∀ (w : World) (vo : Option Addr) (vc : Nat) (po : Option Addr) (pc : Nat) (x : Sb), Ok15 x → SibIn w vo po pc x → Calls Try.prog 12 #[.agg #[.slice vo x.k.c.length vc, .bool x.k.d, .string x.k.x.a, .int .u64 (x.k.x.n : Int), .slice po x.m.length pc, .bool x.d, .string x.v]] w fun e w' => e = .returned (.int .i64 (sCheck x)) ∧ Keep0 w w'
  encode : ∀ (w : World) (vo : Option Addr) (vc : Nat) (po : Option Addr) (pc : Nat) (x : Sb), Ok15 x → SibIn w vo po pc x → Calls Try.prog 10 #[.agg #[.slice vo x.k.c.length vc, .bool x.k.d, .string x.k.x.a, .int .u64 (x.k.x.n : Int), .slice po x.m.length pc, .bool x.d, .string x.v]] w fun e w' => e = .returned (.tuple #[.string (encS x).1, .int .i64 (encS x).2]) ∧ Keep0 w w'
  decode : ∀ (w : World) (s : ByteArray), s.size ≤ 1000000 → Calls Try.prog 17 #[.string s] w (RSibE (decS s) w)
  take : ∀ {w : World} {b : Nat} {s : ByteArray} {a x : Int}, Cur w b s a x → s.size ≤ 1000000 → Calls Try.prog 22 #[ptr b] w (RTakeS (rX zSb rSib s a x) s b w)
  put : ∀ {w : World} {b r : Nat} {t : ByteArray} {M x : Int} (ao : Option Addr) (cap : Nat) (l : List Sb), Pen w b r t M x → t.size ≤ 1000000 → l.length ≤ 100 → (∀ y ∈ l, Ok15 y) → SibsBy w b r ao l →
    Calls Try.prog 27 #[pptr b, .slice ao l.length cap] w fun e w' => e = .returned (.tuple #[]) ∧ PenAfter w w' b r M (pSibs M (t, x) l)
  same : ∀ (w : World) (vo : Option Addr) (vc : Nat) (po : Option Addr) (pc : Nat) (x : Sb) (vo' : Option Addr) (vc' : Nat) (po' : Option Addr) (pc' : Nat) (y : Sb), Ok15 x → Ok15 y → SibIn w vo po pc x → SibIn w vo' po' pc' y → Calls Try.prog 14 #[.agg #[.slice vo x.k.c.length vc, .bool x.k.d, .string x.k.x.a, .int .u64 (x.k.x.n : Int), .slice po x.m.length pc, .bool x.d, .string x.v], .agg #[.slice vo' y.k.c.length vc', .bool y.k.d, .string y.k.x.a, .int .u64 (y.k.x.n : Int), .slice po' y.m.length pc', .bool y.d, .string y.v]] w fun e w' => e = .returned (.bool (sSame x y)) ∧ Keep0 w w'
  copy : ∀ (w : World) (vo : Option Addr) (vc : Nat) (po : Option Addr) (pc : Nat) (x : Sb), Ok15 x → SibIn w vo po pc x → Calls Try.prog 16 #[.agg #[.slice vo x.k.c.length vc, .bool x.k.d, .string x.k.x.a, .int .u64 (x.k.x.n : Int), .slice po x.m.length pc, .bool x.d, .string x.v]] w (RCopy x w)
def x15 : Sb := ⟨zCk, [], false, ⟨#[118]⟩⟩
theorem x15_ok : Ok15 x15 := ⟨by show 0 ≤ 10000; omega, by show 0 ≤ 10000; omega, ⟨⟨⟨by show 0 ≤ maxLen; omega, fun x hx => by cases hx⟩, by show 0 ≤ maxLen; omega, by show 0 < 18446744073709551616; omega⟩, ⟨by show 0 ≤ maxLen; omega, fun x hx => by cases hx⟩, by show 1 ≤ maxLen; unfold maxLen; omega⟩, (fun _ h => by cases h), by show 0 ≤ 1000000; omega, (fun _ h => by cases h), by show 1 ≤ 1000000; omega⟩
theorem x15_enc : encS x15 = (⟨#[0, 0, 0, 0, 1, 118]⟩, 0) := by
  have h : vText 1 = ⟨#[1]⟩ := by unfold vText; rw [vEnc_lt (by decide)]; rfl
  have h0 : vText 0 = ⟨#[0]⟩ := by unfold vText; rw [vEnc_lt (by decide)]; rfl
  have e : eSib x15 = ⟨#[0, 0, 0, 0, 1, 118]⟩ := by
    show ((vText 0 ++ ⟨#[]⟩) ++ (one 0 ++ ⟨#[]⟩)) ++ ((vText 0 ++ ⟨#[]⟩) ++ (one 0 ++ (vText 1 ++ ⟨#[118]⟩))) = _
    rw [h, h0]
    rfl
  unfold encS
  rw [if_pos (by rfl), e, if_pos (by decide)]
set_option maxRecDepth 100000 in
theorem awake15 (V : SibCode) (w : World) : Calls Try.prog 8 #[] w fun e w' => e = .returned (.bool true) ∧ Keep0 w w' := by
  have y := V.encode w none 0 none 0 x15 x15_ok (⟨ens_nil _ _, prs_nil _ _, Nat.le_refl _, Nat.zero_le _⟩)
  rw [x15_enc] at y
  have y : Calls Try.prog 10 #[.agg #[.slice none 0 0, .bool false, .string ⟨#[]⟩, .int .u64 0, .slice none 0 0, .bool false, .string ⟨#[118]⟩]] w fun e w' => e = .returned (.tuple #[.string ⟨#[0, 0, 0, 0, 1, 118]⟩, .int .i64 0]) ∧ Keep0 w w' := y
  go_enter Try.func8, Try.ntmps8
  go_wp2_with fail
  refine y.mono ?_
  rintro e w1 ⟨rfl, k1⟩
  clear y
  go_wp2
  go_ret
  exact ⟨rfl, k1⟩
end Go.Proofs.Ytfpahdnhnhkcdaa
