/-
  What this seat's claims lean on of the texts RefObj6, SbC.
  Conditions: as each theorem states.
-/
import Derived.WalkKit
import Derived.ProofKit
import Derived.Below
import Derived.Deep.Draws
import Derived.Deep.RegionHeld
import Derived.Test.YtoefibkhlhmlfaaGreatChecked
import Derived.OpenShut
import Derived.ShutString
import Derived.WalkSpells
import Derived.WalkLawsBesides
import Derived.Deep.QuietTactic
import Derived.BigQuiet
import Derived.Laws.Bits64b
import Derived.PlainAid
import Derived.Lib.AppendStr
import Derived.Deep.AppendLies
import Derived.Laws.IdiomStrings
import Derived.Laws.BytesArg
import Derived.Deep.RegionWith
import Derived.Laws.AppendOwn
import Derived.Deep.DeepAppendWide
import Derived.Deep.Upon
import Derived.Maps.AppendAt
import Derived.Laws.Rows
import Derived.Deep.Slices
import Derived.Deep.CutRange
import Derived.Test.YtoefibkhlhmlfaaGreatZ31
import Derived.Test.YtoefibkhlhmlfaaGreatZ32
import Derived.Test.YtoefibkhlhmlfaaGreatZ30
namespace Go.Proofs.YtoefibkhlhmlfaaGreat
open Go.RowKit
theorem RObE.mk {p : Ob × Int} {w w' : World} {e : Ending} {K : ByteArray} {L : List Pl} {ao : Option Addr} {cap : Nat} (hp : p = (⟨K, L.map Pl.x⟩, 0)) (h : e = .returned (.tuple #[.agg #[.string K, .slice ao L.length cap], .int .i64 0])) (h2 : NewL w.heap.size w' ao L) (hcp : L.length ≤ cap ∧ cap ≤ maxLen) (h3 : Keep0 w w') : RObE p w e w' := by
  subst hp
  exact ⟨ao, cap, L, by rw [h]; show _ = Ending.returned (.tuple #[.agg #[.string K, .slice ao (L.map Pl.x).length cap], _]); rw [List.length_map], rfl, h2, hcp, h3⟩
end Go.Proofs.YtoefibkhlhmlfaaGreat
namespace Go.Proofs.YtoefibkhlhmlfaaGreat
open Go.RowKit
set_option maxRecDepth 100000 in
set_option maxHeartbeats 4000000 in
theorem clock15 {w : World} {b r : Nat} {t : ByteArray} {M x : Int} (h : Pen w b r t M x) (ht : t.size ≤ 100000000) (vo : Option Addr) (vc : Nat) (po : Option Addr) (pc : Nat) (c : List En) (d : Bool) (a : ByteArray) (n : Nat) (m : List Pr) (q : Bool) (v : ByteArray) (ok : Ok13 ⟨c, d, ⟨a, n⟩⟩) (hc : EnsAt w vo c) (hap : 0 < c.length → ApartE (two b r) vo) :
    Calls Tryz.prog 107 #[.agg #[.slice vo c.length vc, .bool d, .string a, .int .u64 (n : Int), .slice po m.length pc, .bool q, .string v], pptr b] w fun e w' => e = .returned (.tuple #[]) ∧ PenAfter w w' b r M (pClk M (t, x) ⟨c, d, ⟨a, n⟩⟩) := by
  have hbl := h.lt
  have hrl := h.rlt
  have kB : Keep0 w ((w.alloc (.cells #[.slice vo c.length vc, .bool d, .string a, .int .u64 (n : Int), .slice po m.length pc, .bool q, .string v] 149)).alloc (.cells #[.slice vo c.length vc, .bool d, .string a, .int .u64 (n : Int)] 58)) := ((Keep.refl _ w).alloc _).alloc _
  obtain ⟨u0, u1, u2, u3, -⟩ := (SAt.new w 149 (.slice vo c.length vc) (.bool d) (.string a) (.int .u64 (n : Int)) (.slice po m.length pc) (.bool q) (.string v)).cells
  have yv : Calls Tryz.prog 146 #[pptr b, .slice (some ⟨w.heap.size + 1, 0, none⟩) 1 1] ((w.alloc (.cells #[.slice vo c.length vc, .bool d, .string a, .int .u64 (n : Int), .slice po m.length pc, .bool q, .string v] 149)).alloc (.cells #[.slice vo c.length vc, .bool d, .string a, .int .u64 (n : Int)] 58)) fun e w' => e = .returned (.tuple #[]) ∧ PenAfter w w' b r M (pClk M (t, x) ⟨c, d, ⟨a, n⟩⟩) := by
    refine (put13g (some ⟨w.heap.size + 1, 0, none⟩) 1 [⟨c, d, ⟨a, n⟩⟩] (h.keep0 kB) ht (by show 1 ≤ 100; decide) (fun y hy => by rw [List.mem_singleton.1 hy]; exact ok) ?_).mono ?_
    · intro i hi
      obtain rfl : i = 0 := by simpa using hi
      have hk := clk_new (w.alloc (.cells #[.slice vo c.length vc, .bool d, .string a, .int .u64 (n : Int), .slice po m.length pc, .bool q, .string v] 149)) 58 ⟨c, d, ⟨a, n⟩⟩ vo vc
      rw [World.size_alloc] at hk
      exact ⟨w.heap.size + 1, 0, vo, vc, rfl, by unfold two; omega, hk, hc.keep0 kB, hap⟩
    · rintro e w' ⟨rfl, h1⟩
      exact ⟨rfl, PenAfter.trans kB.any (.inl rfl) h1⟩
  generalize pClk M (t, x) ⟨c, d, ⟨a, n⟩⟩ = P at *
  clear hc hap ok h kB ht
  go_enter Tryz.func107, Tryz.ntmps107
  go_wp2_with fail
  refine yv.mono ?_
  rintro e w1 ⟨rfl, h1⟩
  clear yv
  go_wp2
  go_end0
  exact ⟨rfl, h1⟩
set_option maxRecDepth 100000 in
set_option maxHeartbeats 4000000 in
theorem meta15 {w : World} {b r : Nat} {t : ByteArray} {M x : Int} (h : Pen w b r t M x) (ht : t.size ≤ 1000000000) (vo : Option Addr) (vc : Nat) (po : Option Addr) (pc : Nat) (c : List En) (d : Bool) (a : ByteArray) (n : Nat) (m : List Pr) (q : Bool) (v : ByteArray) (ok : Ok14 m pc) (hsz : ∀ y ∈ m, y.n.size ≤ 1000000 ∧ y.v.size ≤ 1000000) (hc : PrsAt w po m) (hap : 0 < m.length → ApartE (two b r) po) :
    Calls Tryz.prog 108 #[.agg #[.slice vo c.length vc, .bool d, .string a, .int .u64 (n : Int), .slice po m.length pc, .bool q, .string v], pptr b] w fun e w' => e = .returned (.tuple #[]) ∧ PenAfter w w' b r M (pPrs M (t, x) m) := by
  have kB : Keep0 w (w.alloc (.cells #[.slice vo c.length vc, .bool d, .string a, .int .u64 (n : Int), .slice po m.length pc, .bool q, .string v] 149)) := (Keep.refl _ w).alloc _
  obtain ⟨u0, u1, u2, u3, u4, -⟩ := (SAt.new w 149 (.slice vo c.length vc) (.bool d) (.string a) (.int .u64 (n : Int)) (.slice po m.length pc) (.bool q) (.string v)).cells
  have yv : Calls Tryz.prog 147 #[pptr b, .slice po m.length pc] (w.alloc (.cells #[.slice vo c.length vc, .bool d, .string a, .int .u64 (n : Int), .slice po m.length pc, .bool q, .string v] 149)) fun e w' => e = .returned (.tuple #[]) ∧ PenAfter w w' b r M (pPrs M (t, x) m) := by
    refine (put14 po pc m (h.keep0 kB) ht ok hsz (hc.keep0 kB) hap).mono ?_
    rintro e w' ⟨rfl, h1⟩
    exact ⟨rfl, PenAfter.trans kB.any (.inl rfl) h1⟩
  generalize pPrs M (t, x) m = P at *
  clear hc hap ok h kB ht hsz u0 u1 u2 u3
  go_enter Tryz.func108, Tryz.ntmps108
  go_wp2_with fail
  refine yv.mono ?_
  rintro e w1 ⟨rfl, h1⟩
  clear yv
  go_wp2
  go_end0
  exact ⟨rfl, h1⟩
set_option maxRecDepth 100000 in
set_option maxHeartbeats 4000000 in
theorem dead15 {w : World} {b r : Nat} {t : ByteArray} {M x : Int} (h : Pen w b r t M x) (ht : t.size ≤ 1000000000) (vo : Option Addr) (vc : Nat) (po : Option Addr) (pc : Nat) (c : List En) (d : Bool) (a : ByteArray) (n : Nat) (m : List Pr) (q : Bool) (v : ByteArray) :
    Calls Tryz.prog 109 #[.agg #[.slice vo c.length vc, .bool d, .string a, .int .u64 (n : Int), .slice po m.length pc, .bool q, .string v], pptr b] w fun e w' => e = .returned (.tuple #[]) ∧ PenAfter w w' b r M (wFlag M (t, x) q) := by
  have kB : Keep0 w (w.alloc (.cells #[.slice vo c.length vc, .bool d, .string a, .int .u64 (n : Int), .slice po m.length pc, .bool q, .string v] 149)) := (Keep.refl _ w).alloc _
  obtain ⟨u0, u1, u2, u3, u4, u5, -⟩ := (SAt.new w 149 (.slice vo c.length vc) (.bool d) (.string a) (.int .u64 (n : Int)) (.slice po m.length pc) (.bool q) (.string v)).cells
  have yv : Calls Tryz.prog 148 #[pptr b, .bool q] (w.alloc (.cells #[.slice vo c.length vc, .bool d, .string a, .int .u64 (n : Int), .slice po m.length pc, .bool q, .string v] 149)) fun e w' => e = .returned (.tuple #[]) ∧ PenAfter w w' b r M (wFlag M (t, x) q) := by
    refine (pflag6_any q (h.keep0 kB) (by omega)).mono ?_
    rintro e w' ⟨rfl, h1⟩
    exact ⟨rfl, PenAfter.trans kB.any (.inl rfl) h1⟩
  generalize wFlag M (t, x) q = P at *
  clear h kB ht u0 u1 u2 u3 u4
  go_enter Tryz.func109, Tryz.ntmps109
  go_wp2_with fail
  refine yv.mono ?_
  rintro e w1 ⟨rfl, h1⟩
  clear yv
  go_wp2
  go_end0
  exact ⟨rfl, h1⟩
set_option maxRecDepth 100000 in
set_option maxHeartbeats 4000000 in
theorem value15 {w : World} {b r : Nat} {t : ByteArray} {M x : Int} (h : Pen w b r t M x) (ht : t.size ≤ 1000000000) (vo : Option Addr) (vc : Nat) (po : Option Addr) (pc : Nat) (c : List En) (d : Bool) (a : ByteArray) (n : Nat) (m : List Pr) (q : Bool) (v : ByteArray) (hv : v.size ≤ 1000000) :
    Calls Tryz.prog 110 #[.agg #[.slice vo c.length vc, .bool d, .string a, .int .u64 (n : Int), .slice po m.length pc, .bool q, .string v], pptr b] w fun e w' => e = .returned (.tuple #[]) ∧ PenAfter w w' b r M (wPut M 32768 (t, x) v) := by
  have kB : Keep0 w (w.alloc (.cells #[.slice vo c.length vc, .bool d, .string a, .int .u64 (n : Int), .slice po m.length pc, .bool q, .string v] 149)) := (Keep.refl _ w).alloc _
  obtain ⟨u0, u1, u2, u3, u4, u5, u6, -⟩ := (SAt.new w 149 (.slice vo c.length vc) (.bool d) (.string a) (.int .u64 (n : Int)) (.slice po m.length pc) (.bool q) (.string v)).cells
  have yv : Calls Tryz.prog 72 #[pptr b, .int .i64 32768, .slice (some ⟨w.heap.size + 1, 0, none⟩) 1 1] ((w.alloc (.cells #[.slice vo c.length vc, .bool d, .string a, .int .u64 (n : Int), .slice po m.length pc, .bool q, .string v] 149)).alloc (.cells #[.string v] 9)) fun e w' => e = .returned (.tuple #[]) ∧ PenAfter w w' b r M (wPut M 32768 (t, x) v) := by
    refine (bput_one14 (h.keep0 kB) 32768 (by decide) v (by unfold maxLen; omega) (by omega) 9 (w.heap.size + 1) (by rw [World.size_alloc])).mono ?_
    rintro e w' ⟨rfl, h1⟩
    exact ⟨rfl, PenAfter.trans kB.any (.inl rfl) h1⟩
  generalize wPut M 32768 (t, x) v = P at *
  clear h kB ht hv u0 u1 u2 u3 u4 u5
  go_enter Tryz.func110, Tryz.ntmps110
  go_wp2_with fail
  refine yv.mono ?_
  rintro e w1 ⟨rfl, h1⟩
  clear yv
  go_wp2
  go_end0
  exact ⟨rfl, h1⟩
def pick5 (P0 P1 P2 P3 P4 : ByteArray × Int) : Nat → ByteArray × Int
  | 0 => P0
  | 1 => P1
  | 2 => P2
  | 3 => P3
  | _ => P4
set_option maxRecDepth 100000 in
set_option maxHeartbeats 4000000 in
theorem parts15 {w : World} {b r : Nat} {t : ByteArray} {M x : Int} (h : Pen w b r t M x) (ht : t.size ≤ 90000000) (vo : Option Addr) (vc : Nat) (po : Option Addr) (pc : Nat) (c : List En) (d : Bool) (a : ByteArray) (n : Nat) (m : List Pr) (q : Bool) (v : ByteArray) (o : Ok15 ⟨⟨c, d, ⟨a, n⟩⟩, m, q, v⟩) (hI : SibIn w vo po pc ⟨⟨c, d, ⟨a, n⟩⟩, m, q, v⟩) (hE : 0 < c.length → ApartE (two b r) vo) (hP : 0 < m.length → ApartE (two b r) po)
    (g : Nat) (ng : ¬ two b r g) (c0 : w.cell? ⟨g, 0, none⟩ = some (.func (.func 107) #[.agg #[.slice vo c.length vc, .bool d, .string a, .int .u64 (n : Int), .slice po m.length pc, .bool q, .string v]] #[])) (c1 : w.cell? ⟨g, 1, none⟩ = some (.func (.func 108) #[.agg #[.slice vo c.length vc, .bool d, .string a, .int .u64 (n : Int), .slice po m.length pc, .bool q, .string v]] #[])) (c2 : w.cell? ⟨g, 2, none⟩ = some (.func (.func 109) #[.agg #[.slice vo c.length vc, .bool d, .string a, .int .u64 (n : Int), .slice po m.length pc, .bool q, .string v]] #[])) (c3 : w.cell? ⟨g, 3, none⟩ = some (.func (.func 110) #[.agg #[.slice vo c.length vc, .bool d, .string a, .int .u64 (n : Int), .slice po m.length pc, .bool q, .string v]] #[])) :
    Calls Tryz.prog 106 #[pptr b, .slice (some ⟨g, 0, none⟩) 4 4] w fun e w' => e = .returned (.tuple #[]) ∧ PenAfter w w' b r M (wPut M 32768 (wFlag M (pPrs M (pClk M (t, x) ⟨c, d, ⟨a, n⟩⟩) m) q) v) := by
  have okC : Ok13 ⟨c, d, ⟨a, n⟩⟩ := ⟨o.len, o.fit.clk⟩
  have okP : Ok14 m pc := ⟨o.mlen, o.fit.prs.2, hI.room⟩
  have hts : (t, x).1.size = t.size := rfl
  have z1 := pClk_size M (t, x) (k := ⟨c, d, ⟨a, n⟩⟩) (fun y hy => (o.fit.clk.vec.2 y hy).2) o.fit.clk.num
  obtain ⟨P1, hP1⟩ : ∃ P1, pClk M (t, x) ⟨c, d, ⟨a, n⟩⟩ = P1 := ⟨_, rfl⟩
  rw [hP1] at z1 ⊢
  have z2 := pPrs_sizeQ M P1 m
  obtain ⟨P2, hP2⟩ : ∃ P2, pPrs M P1 m = P2 := ⟨_, rfl⟩
  rw [hP2] at z2 ⊢
  have z3 := wFlag_size M P2 q
  obtain ⟨P3, hP3⟩ : ∃ P3, wFlag M P2 q = P3 := ⟨_, rfl⟩
  rw [hP3] at z3 ⊢
  obtain ⟨P4, hP4⟩ : ∃ P4, wPut M 32768 P3 v = P4 := ⟨_, rfl⟩
  rw [hP4]
  have holdE : ∀ W r', (r' = r ∨ w.heap.size ≤ r') → Keep (two b r) w W → EnsAt W vo c ∧ (0 < c.length → ApartE (two b r') vo) := by
    intro W r' hr k
    by_cases hz : 0 < c.length
    · refine ⟨hI.ens.keep k (hE hz), fun hl g off mm e hh => ?_⟩
      have h1 := hE hz g off mm e
      have h2 := ens_old hI.ens hz g off mm e
      unfold two at hh h1
      omega
    · exact ⟨fun i hi => absurd hi (by omega), fun hl => absurd hl hz⟩
  have holdP : ∀ W r', (r' = r ∨ w.heap.size ≤ r') → Keep (two b r) w W → PrsAt W po m ∧ (0 < m.length → ApartE (two b r') po) := by
    intro W r' hr k
    by_cases hz : 0 < m.length
    · refine ⟨hI.prs.keep k (hP hz), fun hl g off mm e hh => ?_⟩
      have h1 := hP hz g off mm e
      have h2 := prs_old hI.prs hz g off mm e
      unfold two at hh h1
      omega
    · exact ⟨fun i hi => absurd hi (by omega), fun hl => absurd hl hz⟩
  have hE1 : (P1.1, P1.2) = P1 := rfl
  have hE2 : (P2.1, P2.2) = P2 := rfl
  have hE3 : (P3.1, P3.2) = P3 := rfl
  have y0 : Hid (∀ W r', (r' = r ∨ w.heap.size ≤ r') → Keep (two b r) w W → Pen W b r' t M x → Calls Tryz.prog 107 #[.agg #[.slice vo c.length vc, .bool d, .string a, .int .u64 (n : Int), .slice po m.length pc, .bool q, .string v], pptr b] W fun e w' => e = .returned (.tuple #[]) ∧ PenAfter W w' b r' M P1) := by
    intro W r' hr k hp
    have := clock15 hp (by omega) vo vc po pc c d a n m q v okC (holdE W r' hr k).1 (holdE W r' hr k).2
    rwa [hP1] at this
  have y1 : Hid (∀ W r', (r' = r ∨ w.heap.size ≤ r') → Keep (two b r) w W → Pen W b r' P1.1 M P1.2 → Calls Tryz.prog 108 #[.agg #[.slice vo c.length vc, .bool d, .string a, .int .u64 (n : Int), .slice po m.length pc, .bool q, .string v], pptr b] W fun e w' => e = .returned (.tuple #[]) ∧ PenAfter W w' b r' M P2) := by
    intro W r' hr k hp
    have := meta15 hp (by omega) vo vc po pc c d a n m q v okP o.prs (holdP W r' hr k).1 (holdP W r' hr k).2
    rwa [hE1, hP2] at this
  have y2 : Hid (∀ W r', (r' = r ∨ w.heap.size ≤ r') → Keep (two b r) w W → Pen W b r' P2.1 M P2.2 → Calls Tryz.prog 109 #[.agg #[.slice vo c.length vc, .bool d, .string a, .int .u64 (n : Int), .slice po m.length pc, .bool q, .string v], pptr b] W fun e w' => e = .returned (.tuple #[]) ∧ PenAfter W w' b r' M P3) := by
    intro W r' hr k hp
    have := dead15 hp (by omega) vo vc po pc c d a n m q v
    rwa [hE2, hP3] at this
  have y3 : Hid (∀ W r', (r' = r ∨ w.heap.size ≤ r') → Keep (two b r) w W → Pen W b r' P3.1 M P3.2 → Calls Tryz.prog 110 #[.agg #[.slice vo c.length vc, .bool d, .string a, .int .u64 (n : Int), .slice po m.length pc, .bool q, .string v], pptr b] W fun e w' => e = .returned (.tuple #[]) ∧ PenAfter W w' b r' M P4) := by
    intro W r' hr k hp
    have := value15 hp (by omega) vo vc po pc c d a n m q v o.val
    rwa [hE3, hP4] at this
  have HB : Hid (∀ W r', Pen W b r' P4.1 M P4.2 → Keep (two b r) w W → (r' = r ∨ w.heap.size ≤ r') → PenAfter w W b r M P4) := fun W r' h1 h2 h3 => ⟨r', h1, h2, h3⟩
  have HC : Hid (w.cell? ⟨g, 0, none⟩ = some (.func (.func 107) #[.agg #[.slice vo c.length vc, .bool d, .string a, .int .u64 (n : Int), .slice po m.length pc, .bool q, .string v]] #[]) ∧ w.cell? ⟨g, 1, none⟩ = some (.func (.func 108) #[.agg #[.slice vo c.length vc, .bool d, .string a, .int .u64 (n : Int), .slice po m.length pc, .bool q, .string v]] #[]) ∧ w.cell? ⟨g, 2, none⟩ = some (.func (.func 109) #[.agg #[.slice vo c.length vc, .bool d, .string a, .int .u64 (n : Int), .slice po m.length pc, .bool q, .string v]] #[]) ∧ w.cell? ⟨g, 3, none⟩ = some (.func (.func 110) #[.agg #[.slice vo c.length vc, .bool d, .string a, .int .u64 (n : Int), .slice po m.length pc, .bool q, .string v]] #[])) := ⟨c0, c1, c2, c3⟩
  clear c0 c1 c2 c3 z1 z2 z3 hts hE1 hE2 hE3 hP1 hP2 hP3 hP4 okC okP holdE holdP hI hE hP o ht
  generalize hB : w.heap.size = B at *
  go_enter Tryz.func106, Tryz.ntmps106
  go_wp2_with fail
  go_loopw [8] (fun i wr => ∃ (k r' : Nat), i = .int .i64 (k : Int) ∧ k ≤ 4 ∧ Pen wr b r' (pick5 (t, x) P1 P2 P3 P4 k).1 M (pick5 (t, x) P1 P2 P3 P4 k).2 ∧ (r' = r ∨ B ≤ r') ∧ Keep (two b r) w wr) (fun i _ => 4 - (intOf i).toNat)
  case atStart => exact ⟨0, r, rfl, by omega, h, .inl rfl, Keep.refl _ _⟩
  case round =>
    obtain ⟨k, r', rfl, hk2, hp, hr', hK⟩ := hrel
    clear h
    have hsz := hK.size
    rw [hB] at hsz
    have hc4 : k = 0 ∨ k = 1 ∨ k = 2 ∨ k = 3 ∨ k = 4 := by omega
    rcases hc4 with hk | hk | hk | hk | hk
    · have hp : Pen wr b r' t M x := by rw [hk] at hp; exact hp
      have ck : wr.cell? ⟨g, k, none⟩ = some (.func (.func 107) #[.agg #[.slice vo c.length vc, .bool d, .string a, .int .u64 (n : Int), .slice po m.length pc, .bool q, .string v]] #[]) := by rw [hk]; exact hK.cell HC.out.1 ng
      have yj := y0.out wr r' hr' hK hp
      have i1 : (k : Int) < 4 := by omega
      have HK4 : Hid (k = 0) := hk
      clear y0 y1 y2 y3 hp hk hk2 HC
      go_wp2_with fail
      refine yj.mono ?_
      rintro e w1 ⟨rfl, r1, h1, k1, hr1⟩
      have K1 : Keep (two b r) w w1 := hK.step k1 (fun i hi hh => by unfold two at hh ⊢; omega)
      have hr1' : r1 = r ∨ B ≤ r1 := by omega
      clear yj k1 hK ck
      go_wp2
      go_roundw
      case rel => exact ⟨k + 1, r1, by go_num, by have := HK4.out; omega, by rw [HK4.out]; exact h1, hr1', K1⟩
      case measure => simp [intOf]; omega
    · have hp : Pen wr b r' P1.1 M P1.2 := by rw [hk] at hp; exact hp
      have ck : wr.cell? ⟨g, k, none⟩ = some (.func (.func 108) #[.agg #[.slice vo c.length vc, .bool d, .string a, .int .u64 (n : Int), .slice po m.length pc, .bool q, .string v]] #[]) := by rw [hk]; exact hK.cell HC.out.2.1 ng
      have yj := y1.out wr r' hr' hK hp
      have i1 : (k : Int) < 4 := by omega
      have HK4 : Hid (k = 1) := hk
      clear y0 y1 y2 y3 hp hk hk2 HC
      go_wp2_with fail
      refine yj.mono ?_
      rintro e w1 ⟨rfl, r1, h1, k1, hr1⟩
      have K1 : Keep (two b r) w w1 := hK.step k1 (fun i hi hh => by unfold two at hh ⊢; omega)
      have hr1' : r1 = r ∨ B ≤ r1 := by omega
      clear yj k1 hK ck
      go_wp2
      go_roundw
      case rel => exact ⟨k + 1, r1, by go_num, by have := HK4.out; omega, by rw [HK4.out]; exact h1, hr1', K1⟩
      case measure => simp [intOf]; omega
    · have hp : Pen wr b r' P2.1 M P2.2 := by rw [hk] at hp; exact hp
      have ck : wr.cell? ⟨g, k, none⟩ = some (.func (.func 109) #[.agg #[.slice vo c.length vc, .bool d, .string a, .int .u64 (n : Int), .slice po m.length pc, .bool q, .string v]] #[]) := by rw [hk]; exact hK.cell HC.out.2.2.1 ng
      have yj := y2.out wr r' hr' hK hp
      have i1 : (k : Int) < 4 := by omega
      have HK4 : Hid (k = 2) := hk
      clear y0 y1 y2 y3 hp hk hk2 HC
      go_wp2_with fail
      refine yj.mono ?_
      rintro e w1 ⟨rfl, r1, h1, k1, hr1⟩
      have K1 : Keep (two b r) w w1 := hK.step k1 (fun i hi hh => by unfold two at hh ⊢; omega)
      have hr1' : r1 = r ∨ B ≤ r1 := by omega
      clear yj k1 hK ck
      go_wp2
      go_roundw
      case rel => exact ⟨k + 1, r1, by go_num, by have := HK4.out; omega, by rw [HK4.out]; exact h1, hr1', K1⟩
      case measure => simp [intOf]; omega
    · have hp : Pen wr b r' P3.1 M P3.2 := by rw [hk] at hp; exact hp
      have ck : wr.cell? ⟨g, k, none⟩ = some (.func (.func 110) #[.agg #[.slice vo c.length vc, .bool d, .string a, .int .u64 (n : Int), .slice po m.length pc, .bool q, .string v]] #[]) := by rw [hk]; exact hK.cell HC.out.2.2.2 ng
      have yj := y3.out wr r' hr' hK hp
      have i1 : (k : Int) < 4 := by omega
      have HK4 : Hid (k = 3) := hk
      clear y0 y1 y2 y3 hp hk hk2 HC
      go_wp2_with fail
      refine yj.mono ?_
      rintro e w1 ⟨rfl, r1, h1, k1, hr1⟩
      have K1 : Keep (two b r) w w1 := hK.step k1 (fun i hi hh => by unfold two at hh ⊢; omega)
      have hr1' : r1 = r ∨ B ≤ r1 := by omega
      clear yj k1 hK ck
      go_wp2
      go_roundw
      case rel => exact ⟨k + 1, r1, by go_num, by have := HK4.out; omega, by rw [HK4.out]; exact h1, hr1', K1⟩
      case measure => simp [intOf]; omega
    · have hp : Pen wr b r' P4.1 M P4.2 := by rw [hk] at hp; exact hp
      have i1 : ¬ (k : Int) < 4 := by omega
      have i2 : decide ((k : Int) < 4) = false := decide_eq_false i1
      clear y0 y1 y2 y3 hk
      go_wp2
      go_end0
      exact ⟨rfl, HB.out _ _ hp hK hr'⟩
end Go.Proofs.YtoefibkhlhmlfaaGreat
