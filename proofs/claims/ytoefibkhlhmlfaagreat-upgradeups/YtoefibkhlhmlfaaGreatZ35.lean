/-
  What this seat's claims lean on of the texts SbD.
  Conditions: as each theorem states.
-/
import Derived.WalkKit
import Derived.ProofKit
import Derived.Below
import Derived.Deep.Draws
import Derived.Deep.RegionHeld
import Derived.Test.YtoefibkhlhmlfaaGreatChecked
import Derived.OpenShut
import Derived.ShutString
import Derived.WalkSpells
import Derived.WalkLawsBesides
import Derived.Deep.QuietTactic
import Derived.BigQuiet
import Derived.Laws.Bits64b
import Derived.PlainAid
import Derived.Lib.AppendStr
import Derived.Deep.AppendLies
import Derived.Laws.IdiomStrings
import Derived.Laws.BytesArg
import Derived.Deep.RegionWith
import Derived.Laws.AppendOwn
import Derived.Deep.DeepAppendWide
import Derived.Deep.Upon
import Derived.Laws.Rows
import Derived.Deep.Slices
import Derived.Test.YtoefibkhlhmlfaaGreatZ33
namespace Go.Proofs.YtoefibkhlhmlfaaGreat
open Go.RowKit
theorem parts15q {w : World} {b r : Nat} {t : ByteArray} {M x : Int} (h : Pen w b r t M x) (ht : t.size ≤ 90000000) (vo : Option Addr) (vc : Nat) (po : Option Addr) (pc : Nat) (L : Sb) (h0 : sCheck L = 0) (o : Ok15 L) (hI : SibIn w vo po pc L) (hE : 0 < L.k.c.length → ApartE (two b r) vo) (hP : 0 < L.m.length → ApartE (two b r) po) (g : Nat) (hg : g = w.heap.size + 1) :
    Calls Tryz.prog 106 #[pptr b, .slice (some ⟨g, 0, none⟩) 4 4] ((w.alloc (.cells #[.slice vo L.k.c.length vc, .bool L.k.d, .string L.k.x.a, .int .u64 (L.k.x.n : Int), .slice po L.m.length pc, .bool L.d, .string L.v] 149)).alloc (.cells #[.func (.func 107) #[.agg #[.slice vo L.k.c.length vc, .bool L.k.d, .string L.k.x.a, .int .u64 (L.k.x.n : Int), .slice po L.m.length pc, .bool L.d, .string L.v]] #[], .func (.func 108) #[.agg #[.slice vo L.k.c.length vc, .bool L.k.d, .string L.k.x.a, .int .u64 (L.k.x.n : Int), .slice po L.m.length pc, .bool L.d, .string L.v]] #[], .func (.func 109) #[.agg #[.slice vo L.k.c.length vc, .bool L.k.d, .string L.k.x.a, .int .u64 (L.k.x.n : Int), .slice po L.m.length pc, .bool L.d, .string L.v]] #[], .func (.func 110) #[.agg #[.slice vo L.k.c.length vc, .bool L.k.d, .string L.k.x.a, .int .u64 (L.k.x.n : Int), .slice po L.m.length pc, .bool L.d, .string L.v]] #[]] 151)) fun e w' => e = .returned (.tuple #[]) ∧ PenAfter w w' b r M (pSib M (t, x) L) := by
  subst hg
  have k0 : Keep0 w ((w.alloc (.cells #[.slice vo L.k.c.length vc, .bool L.k.d, .string L.k.x.a, .int .u64 (L.k.x.n : Int), .slice po L.m.length pc, .bool L.d, .string L.v] 149)).alloc (.cells #[.func (.func 107) #[.agg #[.slice vo L.k.c.length vc, .bool L.k.d, .string L.k.x.a, .int .u64 (L.k.x.n : Int), .slice po L.m.length pc, .bool L.d, .string L.v]] #[], .func (.func 108) #[.agg #[.slice vo L.k.c.length vc, .bool L.k.d, .string L.k.x.a, .int .u64 (L.k.x.n : Int), .slice po L.m.length pc, .bool L.d, .string L.v]] #[], .func (.func 109) #[.agg #[.slice vo L.k.c.length vc, .bool L.k.d, .string L.k.x.a, .int .u64 (L.k.x.n : Int), .slice po L.m.length pc, .bool L.d, .string L.v]] #[], .func (.func 110) #[.agg #[.slice vo L.k.c.length vc, .bool L.k.d, .string L.k.x.a, .int .u64 (L.k.x.n : Int), .slice po L.m.length pc, .bool L.d, .string L.v]] #[]] 151)) := ((Keep.refl _ w).alloc _).alloc _
  have hbl := h.lt
  have hrl := h.rlt
  have z1 : (w.alloc (.cells #[.slice vo L.k.c.length vc, .bool L.k.d, .string L.k.x.a, .int .u64 (L.k.x.n : Int), .slice po L.m.length pc, .bool L.d, .string L.v] 149)).heap.size = w.heap.size + 1 := by rw [World.size_alloc]
  have cc : ∀ i u, (#[.func (.func 107) #[.agg #[.slice vo L.k.c.length vc, .bool L.k.d, .string L.k.x.a, .int .u64 (L.k.x.n : Int), .slice po L.m.length pc, .bool L.d, .string L.v]] #[], .func (.func 108) #[.agg #[.slice vo L.k.c.length vc, .bool L.k.d, .string L.k.x.a, .int .u64 (L.k.x.n : Int), .slice po L.m.length pc, .bool L.d, .string L.v]] #[], .func (.func 109) #[.agg #[.slice vo L.k.c.length vc, .bool L.k.d, .string L.k.x.a, .int .u64 (L.k.x.n : Int), .slice po L.m.length pc, .bool L.d, .string L.v]] #[], .func (.func 110) #[.agg #[.slice vo L.k.c.length vc, .bool L.k.d, .string L.k.x.a, .int .u64 (L.k.x.n : Int), .slice po L.m.length pc, .bool L.d, .string L.v]] #[]] : Array Value)[i]? = some u → ((w.alloc (.cells #[.slice vo L.k.c.length vc, .bool L.k.d, .string L.k.x.a, .int .u64 (L.k.x.n : Int), .slice po L.m.length pc, .bool L.d, .string L.v] 149)).alloc (.cells #[.func (.func 107) #[.agg #[.slice vo L.k.c.length vc, .bool L.k.d, .string L.k.x.a, .int .u64 (L.k.x.n : Int), .slice po L.m.length pc, .bool L.d, .string L.v]] #[], .func (.func 108) #[.agg #[.slice vo L.k.c.length vc, .bool L.k.d, .string L.k.x.a, .int .u64 (L.k.x.n : Int), .slice po L.m.length pc, .bool L.d, .string L.v]] #[], .func (.func 109) #[.agg #[.slice vo L.k.c.length vc, .bool L.k.d, .string L.k.x.a, .int .u64 (L.k.x.n : Int), .slice po L.m.length pc, .bool L.d, .string L.v]] #[], .func (.func 110) #[.agg #[.slice vo L.k.c.length vc, .bool L.k.d, .string L.k.x.a, .int .u64 (L.k.x.n : Int), .slice po L.m.length pc, .bool L.d, .string L.v]] #[]] 151)).cell? ⟨w.heap.size + 1, i, none⟩ = some u := by
    intro i u hu
    have := cell_alloc (w.alloc (.cells #[.slice vo L.k.c.length vc, .bool L.k.d, .string L.k.x.a, .int .u64 (L.k.x.n : Int), .slice po L.m.length pc, .bool L.d, .string L.v] 149)) (c := #[.func (.func 107) #[.agg #[.slice vo L.k.c.length vc, .bool L.k.d, .string L.k.x.a, .int .u64 (L.k.x.n : Int), .slice po L.m.length pc, .bool L.d, .string L.v]] #[], .func (.func 108) #[.agg #[.slice vo L.k.c.length vc, .bool L.k.d, .string L.k.x.a, .int .u64 (L.k.x.n : Int), .slice po L.m.length pc, .bool L.d, .string L.v]] #[], .func (.func 109) #[.agg #[.slice vo L.k.c.length vc, .bool L.k.d, .string L.k.x.a, .int .u64 (L.k.x.n : Int), .slice po L.m.length pc, .bool L.d, .string L.v]] #[], .func (.func 110) #[.agg #[.slice vo L.k.c.length vc, .bool L.k.d, .string L.k.x.a, .int .u64 (L.k.x.n : Int), .slice po L.m.length pc, .bool L.d, .string L.v]] #[]]) 151 (i := i) hu
    rw [z1] at this
    exact this
  rw [pSib_yes h0]
  refine (parts15 (h.keep0 k0) ht vo vc po pc L.k.c L.k.d L.k.x.a L.k.x.n L.m L.d L.v o (hI.keep0 k0) hE hP (w.heap.size + 1) (by unfold two; omega) (cc 0 _ rfl) (cc 1 _ rfl) (cc 2 _ rfl) (cc 3 _ rfl)).mono ?_
  rintro e w' ⟨rfl, h1⟩
  exact ⟨rfl, PenAfter.trans k0.any (.inl rfl) h1⟩
set_option maxRecDepth 100000 in
set_option maxHeartbeats 8000000 in
theorem put15g {w : World} {b r : Nat} {t : ByteArray} {M x : Int} (ao : Option Addr) (cap : Nat) (ls : List Sb) (h : Pen w b r t M x) (ht : t.size ≤ 20000000) (hls : ls.length ≤ 100) (hok : ∀ l ∈ ls, Ok15 l) (hc : SibsBy w b r ao ls) :
    Calls Tryz.prog 74 #[pptr b, .slice ao ls.length cap] w fun e w' => e = .returned (.tuple #[]) ∧ PenAfter w w' b r M (pSibs M (t, x) ls) := by
  have HC : Hid (SibsBy w b r ao ls) := hc
  have HO : Hid (∀ l ∈ ls, Ok15 l) := hok
  have HL : Hid (ls.length ≤ 100) := hls
  have hl' : (ls.length : Int) ≤ 9223372036854775807 := by omega
  obtain ⟨R, hR⟩ : ∃ R, pSibs M (t, x) ls = R := ⟨_, rfl⟩
  rw [hR]
  have HR : Hid (pSibs M (t, x) ls = R) := hR
  have HB : Hid (∀ W r', Pen W b r' R.1 M R.2 → Keep (two b r) w W → (r' = r ∨ w.heap.size ≤ r') → PenAfter w W b r M R) := fun W r' h1 h2 h3 => ⟨r', h1, h2, h3⟩
  have hs0 : Hid (∀ k, k ≤ ls.length → (pSibs M (t, x) (ls.take k)).1.size ≤ t.size + 300000 * k) := by
    intro k
    induction k with
    | zero => intro _; exact Nat.le_refl _
    | succ k ih =>
      intro hk
      have h1 := ih (by omega)
      rw [pSibs_take (by omega)]
      have hm := hok _ (List.getElem_mem (show k < ls.length by omega))
      have h2 := pSib_size M (pSibs M (t, x) (ls.take k)) (x := ls[k]'(by omega)) hm.u64.1 hm.u64.2
      rw [Nat.mul_succ, ← Nat.add_assoc]
      exact Nat.le_trans h2 (Nat.add_le_add_right h1 300000)
  clear hc hok hR
  generalize hB : w.heap.size = B at *
  go_enter Tryz.func74, Tryz.ntmps74
  go_wp2_with fail
  go_loopw [9] (fun i wr => ∃ (k : Nat) (r' : Nat), i = .int .i64 (k : Int) ∧ k ≤ ls.length ∧ Pen wr b r' (pSibs M (t, x) (ls.take k)).1 M (pSibs M (t, x) (ls.take k)).2 ∧ (r' = r ∨ B ≤ r') ∧ Keep (two b r) w wr) (fun i _ => ls.length - (intOf i).toNat)
  case atStart => exact ⟨0, r, rfl, by omega, h, .inl rfl, Keep.refl _ _⟩
  case round =>
    obtain ⟨k, r', rfl, hk2, hp, hr', hK⟩ := hrel
    clear h
    by_cases hlt : k < ls.length
    · have i1 : (k : Int) < ls.length := by omega
      obtain ⟨bb, off, vo, vc, po, pc, e0, hap, x0', y0', hnE, hnP⟩ := HC.out k hlt
      subst e0
      obtain ⟨xa0, xa1, xa2, xa3, xa4, xa5, xa6⟩ := x0'.keep hK hap
      have oE : 0 < (ls[k]).k.c.length → ∀ g off m, vo = some ⟨g, off, m⟩ → ¬ two b r g ∧ g < B := fun h g off m e => ⟨hnE h g off m e, by have := ens_old y0'.ens h g off m e; omega⟩
      have oP : 0 < (ls[k]).m.length → ∀ g off m, po = some ⟨g, off, m⟩ → ¬ two b r g ∧ g < B := fun h g off m e => ⟨hnP h g off m e, by have := prs_old y0'.prs h g off m e; omega⟩
      have y0 : SibIn wr vo po pc ls[k] := by
        refine ⟨?_, ?_, y0'.room⟩
        · by_cases hz : 0 < ls[k].k.c.length
          · exact y0'.ens.keep hK (hnE hz)
          · exact fun i hi => absurd hi (by omega)
        · by_cases hz : 0 < ls[k].m.length
          · exact y0'.prs.keep hK (hnP hz)
          · exact fun i hi => absurd hi (by omega)
      have HS := hs0.out k (by omega)
      have hL := HL.out
      have hokk := HO.out ls[k] (List.getElem_mem hlt)
      have kA : Keep0 wr (wr.alloc (.cells #[.slice vo ls[k].k.c.length vc, .bool ls[k].k.d, .string ls[k].k.x.a, .int .u64 (ls[k].k.x.n : Int), .slice po ls[k].m.length pc, .bool ls[k].d, .string ls[k].v] 61)) := (Keep.refl _ wr).alloc _
      have q0 := SAt.new wr 61 (.slice vo ls[k].k.c.length vc) (.bool ls[k].k.d) (.string ls[k].k.x.a) (.int .u64 (ls[k].k.x.n : Int)) (.slice po ls[k].m.length pc) (.bool ls[k].d) (.string ls[k].v)
      have hpA := hp.keep0 kA
      have yA := y0.keep0 kA
      have KA := hK.step0 kA
      have yc := check15 _ vo vc po pc ls[k] hokk yA
      have hbl := hp.lt
      have hrl := hp.rlt
      have hE : ((pSibs M (t, x) (ls.take k)).1, (pSibs M (t, x) (ls.take k)).2) = pSibs M (t, x) (ls.take k) := rfl
      have zr := hK.size
      rw [hB] at zr
      have nb : wr.heap.size ≠ b := by omega
      have nr : ¬ two b r' wr.heap.size := by unfold two; omega
      have HHE : Hid (0 < (ls[k]).k.c.length → ∀ g off m, vo = some ⟨g, off, m⟩ → ¬ two b r g ∧ g < B) := oE
      have HHP : Hid (0 < (ls[k]).m.length → ∀ g off m, po = some ⟨g, off, m⟩ → ¬ two b r g ∧ g < B) := oP
      obtain ⟨qa0, qa1, qa2, qa3, qa4, qa5, qa6, -⟩ := q0.cells
      clear x0' y0' hnE hnP hp y0 kA
      by_cases hx : pFail (pSibs M (t, x) (ls.take k)).2 (sCheck ls[k]) = 0
      · obtain ⟨hx0, hv⟩ : (pSibs M (t, x) (ls.take k)).2 = 0 ∧ sCheck ls[k] = 0 := by
          unfold pFail at hx
          by_cases h0 : (pSibs M (t, x) (ls.take k)).2 = 0
          · rw [if_pos h0] at hx; exact ⟨h0, hx⟩
          · rw [if_neg h0] at hx; exact absurd hx h0
        have hS := pSibs_take (M := M) (p := (t, x)) hlt
        have ypp := fun W (h : Pen W b r' (pSibs M (t, x) (ls.take k)).1 M (pSibs M (t, x) (ls.take k)).2) (hI : SibIn W vo po pc ls[k]) => parts15q h (by omega) vo vc po pc ls[k] hv hokk hI (fun hl g off m e hh => by have := oE hl g off m e; unfold two at hh this; omega) (fun hl g off m e hh => by have := oP hl g off m e; unfold two at hh this; omega)
        rw [hE] at ypp
        rw [← hS] at ypp
        obtain ⟨P2, hP2⟩ : ∃ P2, pSibs M (t, x) (ls.take (k + 1)) = P2 := ⟨_, rfl⟩
        rw [hP2] at ypp
        have HS2 : Hid (pSibs M (t, x) (ls.take (k + 1)) = P2) := hP2
        rw [hv] at yc
        rw [hx0] at hpA ypp
        have yf := fun W (h : Pen W b r' (pSibs M (t, x) (ls.take k)).1 M 0) => pfail_any 0 h
        have hpf : pFail 0 0 = 0 := rfl
        rw [hpf] at yf
        clear hpf hP2 hS hE hx hx0 hv hokk HS oE oP
        generalize (pSibs M (t, x) (ls.take k)).1 = T0 at *
        generalize ls[k] = L at *
        go_wp2_with fail
        generalize (wr.alloc (.cells #[.slice vo L.k.c.length vc, .bool L.k.d, .string L.k.x.a, .int .u64 (L.k.x.n : Int), .slice po L.m.length pc, .bool L.d, .string L.v] 61)) = WA at *
        obtain ⟨G, hG⟩ : ∃ G, wr.heap.size = G := ⟨_, rfl⟩
        rw [hG] at q0 nb nr zr hbl hrl ⊢
        refine yc.mono ?_
        rintro e w1 ⟨rfl, k1⟩
        have h1 := hpA.keep0 k1
        have y1 := yA.keep0 k1
        have q1 := q0.keep0 k1
        have K1 := KA.step0 k1
        have yf := yf _ h1
        clear yc k1 KA hpA yA q0 xa0 xa1 xa2 xa3 xa4 xa5 xa6 qa0 qa1 qa2 qa3 qa4 qa5 qa6 hK hG
        go_wp2_with fail
        refine yf.mono ?_
        rintro e w2 ⟨rfl, h2, k2⟩
        have K2 : Keep (two b r) w w2 := K1.step k2 (fun i hi hh => Or.inl hh)
        have q2 := q1.keep k2 nb
        have ye := perr_any h2
        have z2 := K2.size
        rw [hB] at z2
        have y2 : SibIn w2 vo po pc L := by
          refine ⟨?_, ?_, y1.room⟩
          · by_cases hz : 0 < L.k.c.length
            · exact y1.ens.keep k2 (fun g off m e hh => by have := HHE.out hz g off m e; unfold two at this; omega)
            · exact fun i hi => absurd hi (by omega)
          · by_cases hz : 0 < L.m.length
            · exact y1.prs.keep k2 (fun g off m e hh => by have := HHP.out hz g off m e; unfold two at this; omega)
            · exact fun i hi => absurd hi (by omega)
        have ypp := ypp _ h2 y2 _ rfl
        have hh2 := h2.lt
        have q3 := SAt.new w2 149 (.slice vo L.k.c.length vc) (.bool L.k.d) (.string L.k.x.a) (.int .u64 (L.k.x.n : Int)) (.slice po L.m.length pc) (.bool L.d) (.string L.v)
        have hz3 : (w2.alloc (.cells #[.slice vo L.k.c.length vc, .bool L.k.d, .string L.k.x.a, .int .u64 (L.k.x.n : Int), .slice po L.m.length pc, .bool L.d, .string L.v] 149)).heap.size = w2.heap.size + 1 := by rw [World.size_alloc]
        clear yf k2 K1 h1 y1 y2 q1
        obtain ⟨qa0, qa1, qa2, qa3, qa4, qa5, qa6, -⟩ := q2.cells
        obtain ⟨qb0, qb1, qb2, qb3, qb4, qb5, qb6, -⟩ := q3.cells
        go_wp2_with fail
        refine ye.mono ?_
        rintro e w2' ⟨rfl, rfl⟩
        clear ye
        go_wp2_with fail
        refine ypp.mono ?_
        rintro e w3 ⟨rfl, r3, h3, k3, hr3⟩
        have K3 : Keep (two b r) w w3 := K2.step k3 (fun i hi hh => by unfold two at hh ⊢; omega)
        have hr3' : r3 = r ∨ B ≤ r3 := by omega
        clear ypp k3 K2 h2 qa0 qa1 qa2 qa3 qa4 qa5 qa6 qb0 qb1 qb2 qb3 qb4 qb5 qb6 q2 q3
        go_wp2
        go_roundw
        case rel => exact ⟨k + 1, r3, by go_num, by omega, by rw [HS2.out]; exact h3, hr3', K3⟩
        case measure => simp [intOf]; omega
      · have hF : R = ((pSibs M (t, x) (ls.take k)).1, pFail (pSibs M (t, x) (ls.take k)).2 (sCheck ls[k])) := by
          rw [← HR.out]
          by_cases h0 : (pSibs M (t, x) (ls.take k)).2 = 0
          · have hv : sCheck ls[k] ≠ 0 := by
              intro hv
              apply hx
              unfold pFail
              rw [if_pos h0, hv]
            exact pSibs_stop (i := k + 1) (by rw [pSibs_take hlt, pSib_no hv]) hx
          · have e : pFail (pSibs M (t, x) (ls.take k)).2 (sCheck ls[k]) = (pSibs M (t, x) (ls.take k)).2 := if_neg h0
            rw [e]
            exact pSibs_stop (i := k) rfl h0
        have HF : Hid (R = ((pSibs M (t, x) (ls.take k)).1, pFail (pSibs M (t, x) (ls.take k)).2 (sCheck ls[k]))) := hF
        have yf := fun W (h : Pen W b r' (pSibs M (t, x) (ls.take k)).1 M (pSibs M (t, x) (ls.take k)).2) => pfail_any (sCheck ls[k]) h
        have e1 : (pFail (pSibs M (t, x) (ls.take k)).2 (sCheck ls[k]) != 0) = true := by simpa using hx
        clear hF hE hokk HS oE oP HHE HHP
        generalize pFail (pSibs M (t, x) (ls.take k)).2 (sCheck ls[k]) = E at *
        generalize sCheck ls[k] = V at *
        generalize pSibs M (t, x) (ls.take k) = P0 at *
        generalize ls[k] = L at *
        go_wp2_with fail
        generalize (wr.alloc (.cells #[.slice vo L.k.c.length vc, .bool L.k.d, .string L.k.x.a, .int .u64 (L.k.x.n : Int), .slice po L.m.length pc, .bool L.d, .string L.v] 61)) = WA at *
        refine yc.mono ?_
        rintro e w1 ⟨rfl, k1⟩
        have h1 := hpA.keep0 k1
        have K1 := KA.step0 k1
        have yf := yf _ h1
        clear yc k1 KA hpA yA q0 xa0 xa1 xa2 xa3 xa4 xa5 xa6 qa0 qa1 qa2 qa3 qa4 qa5 qa6 hK
        go_wp2_with fail
        refine yf.mono ?_
        rintro e w2 ⟨rfl, h2, k2⟩
        have K2 : Keep (two b r) w w2 := K1.step k2 (fun i hi hh => Or.inl hh)
        have ye := perr_any h2
        clear yf k2 K1 h1
        go_wp2_with fail
        refine ye.mono ?_
        rintro e w2' ⟨rfl, rfl⟩
        clear ye
        go_wp2
        (try simp only [Exit.inBlock, Exit.then])
        refine bodyPost_ret (results_none rfl _ _ _) rfl ?_
        exact ⟨rfl, HB.out _ _ (by rw [HF.out]; exact h2) K2 hr'⟩
    · have i1 : ¬ (k : Int) < ls.length := by omega
      have ek : ls.take k = ls := List.take_of_length_le (by omega)
      rw [ek, HR.out] at hp
      go_wp2
      go_end0
      exact ⟨rfl, HB.out _ _ hp hK hr'⟩
end Go.Proofs.YtoefibkhlhmlfaaGreat
