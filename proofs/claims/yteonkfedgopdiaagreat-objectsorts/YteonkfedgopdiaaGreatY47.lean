/-
  What this seat's claims lean on of the texts ObC.
  Conditions: as each theorem states.
-/
import Derived.WalkKit
import Derived.ProofKit
import Derived.Below
import Derived.Deep.Draws
import Derived.Deep.RegionHeld
import Derived.Test.YteonkfedgopdiaaGreatChecked
import Derived.OpenShut
import Derived.ShutString
import Derived.WalkSpells
import Derived.WalkLawsBesides
import Derived.Deep.QuietTactic
import Derived.BigQuiet
import Derived.Laws.Bits64b
import Derived.PlainAid
import Derived.Lib.AppendStr
import Derived.Deep.AppendLies
import Derived.Laws.IdiomStrings
import Derived.Laws.BytesArg
import Derived.Deep.RegionWith
import Derived.Laws.AppendOwn
import Derived.Deep.DeepAppendWide
import Derived.Deep.Upon
import Derived.Maps.AppendAt
import Derived.Laws.Rows
import Derived.Deep.Slices
import Derived.Deep.CutRange
import Derived.Deep.RegionLaw
import Derived.Test.YteonkfedgopdiaaGreatY46
import Derived.Test.YteonkfedgopdiaaGreatY43
import Derived.Test.YteonkfedgopdiaaGreatY40
namespace Go.Proofs.YteonkfedgopdiaaGreat
open Go.RowKit
theorem SibsBy.at {w : World} {b r : Nat} {ao : Option Addr} {l : List Sb} (h : SibsBy w b r ao l) : SibsAt w ao l := by
  intro i hi
  obtain ⟨bb, off, vo, vc, po, pc, e, _, h1, h2, _, _⟩ := h i hi
  exact ⟨bb, off, vo, vc, po, pc, e, h1, h2⟩
theorem SibsBy.after {w W : World} {b r r' : Nat} {ao : Option Addr} {l : List Sb} (h : SibsBy w b r ao l) (k : Keep (two b r) w W) (hr : r' = r ∨ w.heap.size ≤ r') : SibsBy W b r' ao l := by
  intro i hi
  obtain ⟨bb, off, vo, vc, po, pc, e, hn, h1, h2, h3, h4⟩ := h i hi
  have hb := World.block_lt_of_cell? w _ h1.c0
  have hb : bb < w.heap.size := hb
  refine ⟨bb, off, vo, vc, po, pc, e, fun hh => ?_, h1.keep k hn, ⟨ens_keepE h2.ens k (fun g off m e => ?_), prs_keepE h2.prs k (fun g off m e => ?_), h2.room⟩, fun hl g off m e hh => ?_, fun hl g off m e hh => ?_⟩
  · unfold two at hh hn; omega
  · by_cases hz : 0 < l[i].k.c.length
    · exact .inr (h3 hz g off m e)
    · exact .inl (by omega)
  · by_cases hz : 0 < l[i].m.length
    · exact .inr (h4 hz g off m e)
    · exact .inl (by omega)
  · have n := h3 hl g off m e
    have := (ens_lt h2.ens g off m e).resolve_left (by omega)
    unfold two at hh n
    omega
  · have n := h4 hl g off m e
    have := (prs_lt h2.prs g off m e).resolve_left (by omega)
    unfold two at hh n
    omega
theorem wCount_err16 {M m : Int} {t : ByteArray} {x n : Int} (h : x ≠ 0) : wCount M m (t, x) n = (t, x) := by
  unfold wCount pFail
  rw [if_neg h, if_neg h, pOne_err h]
  split
  · rfl
  · split <;> rfl
theorem pfail_zero16 (x : Int) : pFail x 0 = x := by
  unfold pFail
  split
  · rename_i h; exact h.symm
  · rfl
theorem pob_chain (M : Int) (t : ByteArray) (x : Int) (o : Ob) : pSibs M (wCount M 16 (wPut M 128 (t, pFail x (oCheck o)) o.key) (o.l.length : Int)) o.l = pOb M (t, x) o := by
  by_cases h0 : oCheck o = 0
  · obtain ⟨h1, _⟩ := oCheck_zero.1 h0
    have h1 := outS_zero.1 h1
    rw [pOb_yes h0, h0, pfail_zero16, wCount_fit (by rw [pMax16]; omega)]
  · have hF : pFail x (oCheck o) ≠ 0 := by
      unfold pFail
      split
      · exact h0
      · assumption
    rw [pOb_no h0, wPut_err hF, wCount_err16 hF, pSibs_err hF]
set_option maxRecDepth 100000 in
set_option maxHeartbeats 8000000 in
theorem put16_any {w : World} {b r : Nat} {t : ByteArray} {M x : Int} (ao : Option Addr) (cap : Nat) (key : ByteArray) (l : List Sb) (h : Pen w b r t M x) (ht : t.size ≤ 1000000) (hk : key.size ≤ 1000000) (hl : l.length ≤ 100) (hf : ∀ x ∈ l, Ok15 x) (hcap : l.length ≤ cap ∧ cap ≤ maxLen) (hc : SibsBy w b r ao l) :
    Calls Tryz.prog 25 #[pptr b, .agg #[.string key, .slice ao l.length cap]] w fun e w' => e = .returned (.tuple #[]) ∧ PenAfter w w' b r M (pOb M (t, x) ⟨key, l⟩) := by
  have hch := pob_chain M t x ⟨key, l⟩
  have i1 : (l.length : Int) ≤ 9223372036854775807 := by omega
  have kA : Keep0 w (w.alloc (.cells #[.string key, .slice ao l.length cap] 24)) := (Keep.refl _ w).alloc _
  have x0 : (w.alloc (.cells #[.string key, .slice ao l.length cap] 24)).cell? ⟨w.heap.size, 0, none⟩ = some (.string key) := cell_alloc w _ rfl
  have x1 : (w.alloc (.cells #[.string key, .slice ao l.length cap] 24)).cell? ⟨w.heap.size, 1, none⟩ = some (.slice ao l.length cap) := cell_alloc w _ rfl
  have z0 : (w.alloc (.cells #[.string key, .slice ao l.length cap] 24)).heap.size = w.heap.size + 1 := by rw [World.size_alloc]
  have h0 := h.keep0 kA
  have hc0 : SibsBy (w.alloc (.cells #[.string key, .slice ao l.length cap] 24)) b r ao l := hc.after kA.any (.inl rfl)
  have yc := check16_any (w.alloc (.cells #[.string key, .slice ao l.length cap] 24)) ao cap key l (by unfold maxLen; omega) (by unfold maxLen; omega) hf hcap hc0.at
  generalize oCheck ⟨key, l⟩ = C at *
  have hbl := h.lt
  have hrl := h.rlt
  have yf := fun W (h : Pen W b r t M x) => pfail_any C h
  generalize pFail x C = F at *
  have ykey := fun W (h : Pen W b r t M F) n hn => bput_one14 h 128 (by decide) key (by unfold maxLen; omega) (by omega) 9 n hn
  have hs1 := wPut_size M 128 (t, F) key (by omega)
  obtain ⟨⟨t1, F1⟩, hP1⟩ : ∃ z, wPut M 128 (t, F) key = z := ⟨_, rfl⟩
  rw [hP1] at hch hs1 ykey
  have hs1 : t1.size ≤ t.size + key.size + 10 := hs1
  have ycnt := fun W r' (h : Pen W b r' t1 M F1) => pcount6_any 16 (l.length : Int) (by decide) (by omega) h (by omega)
  have hs2 := wCount_size M 16 (t1, F1) (l.length : Int) (by omega)
  obtain ⟨⟨t2, F2⟩, hP2⟩ : ∃ z, wCount M 16 (t1, F1) (l.length : Int) = z := ⟨_, rfl⟩
  rw [hP2] at hch hs2 ycnt
  have hs2 : t2.size ≤ t1.size + 10 := hs2
  have yput := fun W r' (h : Pen W b r' t2 M F2) (hc : SibsBy W b r' ao l) => put15g ao cap l h (by omega) hl hf hc
  have hch : pSibs M (t2, F2) l = pOb M (t, x) ⟨key, l⟩ := hch
  rw [hch] at yput
  generalize pOb M (t, x) ⟨key, l⟩ = R at *
  have HC : Hid (SibsBy (w.alloc (.cells #[.string key, .slice ao l.length cap] 24)) b r ao l) := hc0
  clear hch hP1 hP2 hs1 hs2 hf hcap hc hc0 h ht hk hl
  go_enter Tryz.func25, Tryz.ntmps25
  go_wp2_with fail
  generalize (w.alloc (.cells #[.string key, .slice ao l.length cap] 24)) = W0 at *
  obtain ⟨g, hg⟩ : ∃ g, w.heap.size = g := ⟨_, rfl⟩
  rw [hg] at x0 x1 z0 hbl hrl ⊢
  have HG : Hid (w.heap.size = g) := hg
  refine yc.mono ?_
  rintro e w1 ⟨rfl, k1⟩
  have h1 := h0.keep0 k1
  have K1 := kA.trans k1
  replace x0 := k1.cell x0 (fun f => f)
  replace x1 := k1.cell x1 (fun f => f)
  have z1 : g + 1 ≤ w1.heap.size := by have := k1.size; omega
  have HC1 : Hid (SibsBy w1 b r ao l) := HC.out.after k1.any (.inl rfl)
  have yf := yf _ h1
  clear yc k1 kA h0 h1 HC z0
  go_wp2_with fail
  refine yf.mono ?_
  rintro e w2 ⟨rfl, h2, k2⟩
  have k2' : Keep (two b r) w1 w2 := k2.mono (fun _ _ e => .inl e)
  have K2 : Keep (two b r) w w2 := (K1.any (R := two b r)).trans k2'
  have ng : g ≠ b := by omega
  replace x0 := k2.cell x0 ng
  replace x1 := k2.cell x1 ng
  have z2 : g + 1 ≤ w2.heap.size := by have := k2.size; omega
  have HC2 : Hid (SibsBy w2 b r ao l) := HC1.out.after k2' (.inl rfl)
  have ykey := ykey _ h2
  clear yf k2 k2' K1 h2 HC1 z1
  go_wp2_with fail
  refine (ykey _ rfl).mono ?_
  rintro e w3 ⟨rfl, r1, h3, k3, hr1⟩
  have K3 : Keep (two b r) w w3 := K2.trans k3
  have ng2 : ¬ two b r g := by unfold two; omega
  replace x0 := k3.cell x0 ng2
  replace x1 := k3.cell x1 ng2
  have z3 : g + 1 ≤ w3.heap.size := by have := k3.size; omega
  have HC3 : Hid (SibsBy w3 b r1 ao l) := HC2.out.after k3 hr1
  have HR1 : Hid (r1 = r ∨ g + 1 ≤ r1) := by show _ ∨ _; omega
  replace h3 : Pen w3 b r1 t1 M F1 := h3
  have ycnt := ycnt _ _ h3
  clear ykey k3 K2 h3 HC2 z2 hr1
  go_wp2_with fail
  refine ycnt.mono ?_
  rintro e w4 ⟨rfl, r2, h4, k4, hr2⟩
  have K4 : Keep (two b r) w w4 := K3.step k4 (fun i hi hh => by have := HR1.out; have := HG.out; unfold two at hh ⊢; omega)
  have ng3 : ¬ two b r1 g := by have := HR1.out; unfold two; omega
  replace x1 := k4.cell x1 ng3
  have HC4 : Hid (SibsBy w4 b r2 ao l) := HC3.out.after k4 hr2
  have HR2 : Hid (r2 = r ∨ w.heap.size ≤ r2) := by show _ ∨ _; have := HR1.out; have := HG.out; omega
  replace h4 : Pen w4 b r2 t2 M F2 := h4
  have yput := yput _ _ h4 HC4.out
  clear ycnt k4 K3 h4 HC3 z3 hr2 x0 HC4
  go_wp2_with fail
  refine yput.mono ?_
  rintro e w5 ⟨rfl, h5⟩
  have H5 : Hid (PenAfter w w5 b r M R) := PenAfter.trans K4 HR2.out h5
  clear yput h5 K4
  go_wp2
  go_end0
  exact ⟨rfl, H5.out⟩
theorem put16 {w : World} {b r : Nat} {t : ByteArray} {M x : Int} (ao : Option Addr) (cap : Nat) (o : Ob) (h : Pen w b r t M x) (ht : t.size ≤ 1000000) (ok : Ok16 o) (hcap : o.l.length ≤ cap ∧ cap ≤ maxLen) (hc : SibsBy w b r ao o.l) :
    Calls Tryz.prog 25 #[pptr b, .agg #[.string o.key, .slice ao o.l.length cap]] w fun e w' => e = .returned (.tuple #[]) ∧ PenAfter w w' b r M (pOb M (t, x) o) :=
  put16_any ao cap o.key o.l h ht ok.key ok.len ok.sib hcap hc
set_option maxRecDepth 100000 in
set_option maxHeartbeats 4000000 in
theorem encode16 (w : World) (ao : Option Addr) (cap : Nat) (o : Ob) (ok : Ok16 o) (hcap : o.l.length ≤ cap ∧ cap ≤ maxLen) (hc : SibsAt w ao o.l) :
    Calls Tryz.prog 9 #[.agg #[.string o.key, .slice ao o.l.length cap]] w fun e w' => e = .returned (.tuple #[.string (encO o).1, .int .i64 (encO o).2]) ∧ Keep0 w w' := by
  have he := encO_pen (o := o) ok.u
  have k0 : Keep0 w (w.alloc (.cells #[.string o.key, .slice ao o.l.length cap] 24)) := (Keep.refl _ w).alloc _
  have q0 := DAt.new w 24 (.string o.key) (.slice ao o.l.length cap)
  have z0 : (w.alloc (.cells #[.string o.key, .slice ao o.l.length cap] 24)).heap.size = w.heap.size + 1 := by rw [World.size_alloc]
  have yn := pnew_any (w.alloc (.cells #[.string o.key, .slice ao o.l.length cap] 24)) 65536 (by decide)
  have hpm : pMax 65536 = 65536 := rfl
  rw [hpm, z0] at yn
  have hB : ∀ W, Pen W (w.heap.size + 1) (w.heap.size + 1) ⟨#[]⟩ 65536 0 → Keep0 w W → Calls Tryz.prog 25 #[pptr (w.heap.size + 1), .agg #[.string o.key, .slice ao o.l.length cap]] W fun e w' => e = .returned (.tuple #[]) ∧ ∃ r', Pen w' (w.heap.size + 1) r' (pOb 65536 (⟨#[]⟩, 0) o).1 65536 (pOb 65536 (⟨#[]⟩, 0) o).2 ∧ Keep0 w w' := by
    intro W hP hK
    refine (put16 ao cap o hP (by decide) ok hcap (SibsBy.old hc hK (by omega) (by omega))).mono ?_
    rintro e w' ⟨rfl, r', hp, k, _⟩
    exact ⟨rfl, r', hp, hK.step k (fun i hi hh => by unfold two at hh; omega)⟩
  have e1 : (encO o).1 = pEnd (pOb 65536 (⟨#[]⟩, 0) o).1 (pOb 65536 (⟨#[]⟩, 0) o).2 := by rw [← he]
  have e2 : (encO o).2 = (pOb 65536 (⟨#[]⟩, 0) o).2 := by rw [← he]
  rw [e1, e2]
  have HB : Hid (∀ W, Pen W (w.heap.size + 1) (w.heap.size + 1) ⟨#[]⟩ 65536 0 → Keep0 w W → Calls Tryz.prog 25 #[pptr (w.heap.size + 1), .agg #[.string o.key, .slice ao o.l.length cap]] W fun e w' => e = .returned (.tuple #[]) ∧ ∃ r', Pen w' (w.heap.size + 1) r' (pOb 65536 (⟨#[]⟩, 0) o).1 65536 (pOb 65536 (⟨#[]⟩, 0) o).2 ∧ Keep0 w w') := hB
  generalize pOb 65536 (⟨#[]⟩, 0) o = P at *
  have ye := fun W r' (h : Pen W (w.heap.size + 1) r' P.1 65536 P.2) => pend_any h
  generalize pEnd P.1 P.2 = PE at *
  clear he e1 e2 hpm hB hc ok hcap
  go_enter Tryz.func9, Tryz.ntmps9
  go_wp2_with fail
  generalize (w.alloc (.cells #[.string o.key, .slice ao o.l.length cap] 24)) = W0 at *
  obtain ⟨g, hg⟩ : ∃ g, w.heap.size = g := ⟨_, rfl⟩
  rw [hg] at q0 z0 yn ye HB ⊢
  refine yn.mono ?_
  rintro e w1 ⟨rfl, h1, k1⟩
  have K1 := k0.trans k1
  have yp := HB.out w1 h1 K1
  obtain ⟨x0, x1, f0, f1⟩ := (q0.keep0 k1).cells
  clear yn HB k0 k1 q0
  go_wp2_with fail
  refine yp.mono ?_
  rintro e w2 ⟨rfl, r2, h2, K2⟩
  have ye := ye _ _ h2
  clear yp K1 h1 x0 x1 f0 f1
  go_wp2_with fail
  refine ye.mono ?_
  rintro e w3 ⟨rfl, rfl⟩
  clear ye
  go_wp2
  go_ret2
  exact ⟨rfl, K2⟩
set_option maxRecDepth 100000 in
set_option maxHeartbeats 8000000 in
theorem decode16 (w : World) (s : ByteArray) (hs : s.size ≤ maxLen) :
    Calls Tryz.prog 16 #[.string s] w (RObE (decO s) w) := by
  have HE : Hid (∀ (W : World) (e : Ending) (E : Int), decO s = (zOb, E) → e = .returned (.tuple #[.agg #[.string ⟨#[]⟩, .slice none 0 0], .int .i64 E]) → Keep0 w W → RObE (decO s) w e W) := fun _ _ _ h1 h2 h3 => RObE.bare h1 h2 h3
  have HM : Hid (∀ (W : World) (e : Ending) (K : ByteArray) (L : List Pl) (ao : Option Addr) (cap : Nat), decO s = (⟨K, L.map Pl.x⟩, 0) → e = .returned (.tuple #[.agg #[.string K, .slice ao L.length cap], .int .i64 0]) → NewL w.heap.size W ao L → (L.length ≤ cap ∧ cap ≤ maxLen) → Keep0 w W → RObE (decO s) w e W) := fun _ _ _ _ _ _ h1 h2 h3 h3' h4 => RObE.mk h1 h2 h3 h3' h4
  have kA : Keep0 w (w.alloc (.cells #[.string ⟨#[]⟩, .slice none 0 0] 24)) := (Keep.refl _ w).alloc _
  have q2 : DAt (w.alloc (.cells #[.string ⟨#[]⟩, .slice none 0 0] 24)) w.heap.size (.string ⟨#[]⟩) (.slice none 0 0) := DAt.new w 24 (.string ⟨#[]⟩) (.slice none 0 0)
  have z1 : (w.alloc (.cells #[.string ⟨#[]⟩, .slice none 0 0] 24)).heap.size = w.heap.size + 1 := by rw [World.size_alloc]
  have yn := new_any (w.alloc (.cells #[.string ⟨#[]⟩, .slice none 0 0] 24)) s hs
  rw [z1] at yn
  have yt := fun W (h : Cur W (w.heap.size + 1) s 0 0) => take16 h
  rw [rX_yes] at yt
  have HD : Hid (if cEnd s (rOb s 0).2.1 (rOb s 0).2.2 = 0 then decO s = ((rOb s 0).1, 0) else decO s = (zOb, cEnd s (rOb s 0).2.1 (rOb s 0).2.2)) := by
    show if _ then _ else _
    unfold decO dec
    split <;> rfl
  have ye := fun (W : World) (h : Cur W (w.heap.size + 1) s (rOb s 0).2.1 (rOb s 0).2.2) => end_any h
  generalize hE : cEnd s (rOb s 0).2.1 (rOb s 0).2.2 = E at *
  obtain ⟨⟨OO, A, X⟩, hRV⟩ : ∃ RV, rOb s 0 = RV := ⟨_, rfl⟩
  rw [hRV] at yt ye HD
  clear hE hRV
  have ye : ∀ (W : World), Cur W (w.heap.size + 1) s A X → Calls Tryz.prog 44 #[ptr (w.heap.size + 1)] W fun e w' => e = .returned (.int .i64 E) ∧ Cur w' (w.heap.size + 1) s A E ∧ Keep1 (w.heap.size + 1) W w' := ye
  have HD : Hid (if E = 0 then decO s = (OO, 0) else decO s = (zOb, E)) := HD
  go_enter Tryz.func16, Tryz.ntmps16
  go_wp2_with fail
  generalize (w.alloc (.cells #[.string ⟨#[]⟩, .slice none 0 0] 24)) = W0 at *
  obtain ⟨g2, hg2⟩ : ∃ g2, w.heap.size = g2 := ⟨_, rfl⟩
  rw [hg2] at q2 z1 yn yt ye ⊢
  obtain ⟨gc, hgc⟩ : ∃ gc, g2 + 1 = gc := ⟨_, rfl⟩
  rw [hgc] at yn yt ye z1
  have n2 : g2 ≠ gc := by omega
  have HG : Hid (w.heap.size = g2 ∧ g2 + 1 = gc) := ⟨hg2, hgc⟩
  refine yn.mono ?_
  rintro e w0 ⟨rfl, c0, kn⟩
  have K0 := kA.trans kn
  have qn := q2.keep0 kn
  have sz0 := c0.lt
  have yt := yt _ c0
  clear yn kA kn q2 hs z1
  go_wp2_with fail
  refine yt.mono ?_
  rintro e w1 ⟨ao, cap, L, rfl, hL, c1, hN, hcp, k1⟩
  obtain ⟨K, l⟩ := OO
  have hL : L.map Pl.x = l := hL
  subst hL
  replace c1 : Cur w1 gc s A X := c1
  have el : (L.map Pl.x).length = L.length := List.length_map ..
  dsimp only
  rw [el]
  have HCP : Hid (L.length ≤ cap ∧ cap ≤ maxLen) := hcp
  clear hcp
  have K1 : Keep0 w w1 := K0.step k1 (fun i hi hh => by have := HG.out; omega)
  have q2a := qn.keep k1 n2
  have HNL : Hid (NewL (gc + 1) w1 ao L) := hN.lower (by omega)
  clear yt k1 K0 qn hN hg2 hgc el c0 sz0
  have kB : Keep0 w1 (w1.alloc (.cells #[.string K, .slice ao L.length cap] 24)) := (Keep.refl _ w1).alloc _
  have q3 := DAt.new w1 24 (.string K) (.slice ao L.length cap)
  have c2 := c1.keep0 kB
  have q2b := q2a.keep0 kB
  have HNL2 : Hid (NewL (gc + 1) (w1.alloc (.cells #[.string K, .slice ao L.length cap] 24)) ao L) := HNL.out.keep kB (fun _ _ f => f)
  have K2 := K1.trans kB
  have hlt := c1.lt
  have ye := ye _ c2
  clear kB c1 q2a HNL K1
  go_wp2_with fail
  generalize (w1.alloc (.cells #[.string K, .slice ao L.length cap] 24)) = W2 at *
  obtain ⟨g3, hg3⟩ : ∃ g3, w1.heap.size = g3 := ⟨_, rfl⟩
  rw [hg3] at q3 hlt ⊢
  have n3 : g3 ≠ gc := by omega
  refine ye.mono ?_
  rintro e w3 ⟨rfl, c3, k3⟩
  have K3 : Keep0 w w3 := K2.step k3 (fun i hi hh => by have := HG.out; omega)
  have q2c := q2b.keep k3 n2
  have q3c := q3.keep k3 n3
  have HNL3 : Hid (NewL (gc + 1) w3 ao L) := HNL2.out.keep k3 (fun g hg hh => by omega)
  clear ye k3 K2 q2b q3 HNL2 c2 c3 hg3 hlt
  obtain ⟨u0, u1, f0, f1⟩ := q2c.cells
  obtain ⟨t0, t1, h0, h1⟩ := q3c.cells
  by_cases hz : E = 0
  · have hd := HD.out
    rw [if_pos hz] at hd
    have HV : Hid (decO s = (⟨K, L.map Pl.x⟩, 0)) := hd
    subst hz
    clear hd HD HE
    go_wp2
    refine bodyPost_ret (retOb2 rfl _ _ _ rfl (q2c.put (.string K) (.slice ao L.length cap))) rfl ?_
    exact HM.out _ _ K L ao cap HV.out rfl ((HNL3.out.keep (put2_keep _ _ _ _) (fun g hg hh => by have := HG.out; omega)).lower (by have := HG.out; omega)) HCP.out (K3.step (put2_keep _ _ _ _) (fun i hi hh => by have := HG.out; omega))
  · have hd := HD.out
    rw [if_neg hz] at hd
    have HV : Hid (decO s = (zOb, E)) := hd
    have e0 : (E != 0) = true := by simpa using hz
    clear hd HD HM hz
    go_wp2
    refine bodyPost_ret (retOb2 rfl _ _ _ rfl (q2c.put (.string ⟨#[]⟩) (.slice none 0 0))) rfl ?_
    exact HE.out _ _ _ HV.out rfl (K3.step (put2_keep _ _ _ _) (fun i hi hh => by have := HG.out; omega))
end Go.Proofs.YteonkfedgopdiaaGreat
