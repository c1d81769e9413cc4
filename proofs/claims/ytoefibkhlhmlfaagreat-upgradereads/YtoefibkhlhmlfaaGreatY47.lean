/-
  What this seat's claims lean on of the texts ObF.
  Conditions: as each theorem states.
-/
import Derived.WalkKit
import Derived.ProofKit
import Derived.Below
import Derived.Deep.Draws
import Derived.Deep.RegionHeld
import Derived.Test.YtoefibkhlhmlfaaGreatChecked
import Derived.OpenShut
import Derived.ShutString
import Derived.WalkSpells
import Derived.WalkLawsBesides
import Derived.Deep.QuietTactic
import Derived.BigQuiet
import Derived.Laws.Bits64b
import Derived.PlainAid
import Derived.Lib.AppendStr
import Derived.Deep.AppendLies
import Derived.Laws.IdiomStrings
import Derived.Laws.BytesArg
import Derived.Deep.RegionWith
import Derived.Laws.AppendOwn
import Derived.Deep.DeepAppendWide
import Derived.Deep.Upon
import Derived.Maps.AppendAt
import Derived.Laws.Rows
import Derived.Deep.Slices
import Derived.Deep.CutRange
import Derived.Deep.RegionLaw
import Derived.RunT
import Derived.Calls
import Derived.Shelf.SlSortCmp.WholeK
import Derived.Test.YtoefibkhlhmlfaaGreatY46
import Derived.Test.YtoefibkhlhmlfaaGreatY4
namespace Go.Proofs.YtoefibkhlhmlfaaGreat
open Go.RowKit Go.Sort Go.Shelf
theorem keep_grow {w w' : World} (h : Keep0 w w') (hd : w.drawn ≤ w'.drawn) : ∃ q os, w' = grow (w.drewN q) os := by
  refine ⟨w'.drawn - w.drawn, w'.heap.extract w.heap.size w'.heap.size, ?_⟩
  have hh : w'.heap = w.heap ++ w'.heap.extract w.heap.size w'.heap.size := by
    apply Array.ext_getElem?
    intro i
    rw [Array.getElem?_append]
    split
    · rename_i hi
      exact h.block i hi (fun f => f)
    · rename_i hi
      have hs := h.size
      by_cases hi2 : i < w'.heap.size
      · rw [Array.getElem?_extract, if_pos (by omega)]
        congr 1
        omega
      · rw [Array.getElem?_eq_none (by omega), Array.getElem?_eq_none (by rw [Array.size_extract]; omega)]
  have hdr : w'.drawn = w.drawn + (w'.drawn - w.drawn) := by omega
  obtain ⟨a, b, c, d, e⟩ := w'
  obtain ⟨a', b', c', d', e'⟩ := w
  have h1 : d = d' := h.os
  have h2 : b = b' := h.tape
  have h3 : e = e' := h.output
  subst h1 h2 h3
  unfold grow World.drewN
  dsimp only at hh hdr ⊢
  rw [← hh, ← hdr]
theorem keep_sortWorld {α : Type} [Inhabited α] (enc : α → List Value) (k : Nat) (w : World) (blk off m : Nat) (d : Array α) (os : Array Obj) : Keep1 blk w (sortWorldK enc k w blk off m d os) := by
  refine ⟨rfl, rfl, rfl, size_sortWorldK_c enc k w blk off m d os, fun i hi hn => ?_⟩
  have hsz : i < (putRowK enc k (Sort.ahead w m) blk off d).heap.size := by rw [size_putRowK]; exact hi
  unfold sortWorldK
  rw [heap_grow_old _ _ hsz]
  show (w.heap.modify blk _)[i]? = w.heap[i]?
  rw [Array.getElem?_modify, if_neg (fun e => hn e.symm)]
structure SIn (w : World) (blk : Nat) (p : Pl) : Prop where
  chk : sCheck p.x = 0
  ok : Ok15 p.x
  at_ : p.in w
  vec : ∀ g off m, p.vo = some ⟨g, off, m⟩ → p.x.k.c.length = 0 ∨ g ≠ blk
  prs : ∀ g off m, p.po = some ⟨g, off, m⟩ → p.x.m.length = 0 ∨ g ≠ blk
abbrev SPl (w : World) (blk : Nat) : Type := {p : Pl // SIn w blk p}
instance (w : World) (blk : Nat) : Inhabited (SPl w blk) := ⟨⟨⟨zSb, none, 0, none, 0⟩, ⟨rfl, zSb_ok, sibIn_zero w, (fun _ _ _ e => by cases e), (fun _ _ _ e => by cases e)⟩⟩⟩
def spc {w : World} {blk : Nat} (q : SPl w blk) : List Value := q.1.cells
def spf {w : World} {blk : Nat} (x y : SPl w blk) : Int := cmpS x.1.x y.1.x
theorem SIn.keep {w w' : World} {blk : Nat} {p : Pl} (h : SIn w blk p) (K : Keep1 blk w w') : p.in w' :=
  ⟨ens_keepE h.at_.ens K (fun g off m e => h.vec g off m e), prs_keepE h.at_.prs K (fun g off m e => h.prs g off m e), h.at_.room⟩
theorem spf_lt {w : World} {blk : Nat} (x y : SPl w blk) : ltOf spf x y = bl (kb x.1.x) (kb y.1.x) := cmpS_lt _ _
theorem spf_swo (w : World) (blk : Nat) : SWO (ltOf (spf (w := w) (blk := blk))) where
  irrefl x := by rw [spf_lt]; exact bl_irr _
  trans x y z h1 h2 := by rw [spf_lt] at *; exact bl_trans h1 h2
  ntrans x y z h1 h2 := by rw [spf_lt] at *; exact bl_trans_no h2 h1
set_option maxRecDepth 100000 in
theorem spf_lays (w : World) (blk off size : Nat) : CmpLays Tryz.prog 64 #[] (spc (w := w) (blk := blk)) 7 spf blk off size w := by
  intro m os dk hs x y
  have K := keep_sortWorld (spc (w := w) (blk := blk)) 7 w blk off m dk os
  generalize sortWorldK (spc (w := w) (blk := blk)) 7 w blk off m dk os = W at *
  have h := closure16 W x.1.vo x.1.vc x.1.po x.1.pc x.1.x y.1.vo y.1.vc y.1.po y.1.pc y.1.x x.2.chk y.2.chk x.2.ok y.2.ok (x.2.keep K).ens (y.2.keep K).ens
  refine (calls_drawn h (fun e w' h => ⟨_, h.1⟩)).mono ?_
  rintro e w' ⟨⟨rfl, k1⟩, hd⟩
  exact ⟨rfl, keep_grow k1 hd⟩
theorem own_holds {B : Nat} {w : World} {ao : Option Addr} {cap : Nat} {L : List Pl} (h : w.ownsRow B 61 7 (.slice ao L.length cap) L.length (rowOf Pl.cells L)) (h0 : 0 < L.length) : ∃ blk, ao = some ⟨blk, 0, none⟩ ∧ B ≤ blk ∧ blk < w.heap.size ∧ (L.length ≤ cap ∧ cap ≤ maxLen) ∧ ∀ d : Array (SPl w blk), d.toList.map Subtype.val = L → HoldsK spc 7 w blk 0 d := by
  obtain ⟨ao', cap', e, hr, _, _, _⟩ := row_of_own plT.len plT.pos h
  cases e
  rcases h.2 with ⟨e, hn⟩ | ⟨g, c, cur, e, hb, hg, hc1, hc2, _⟩
  · omega
  cases e
  have hlt : g < w.heap.size := (Array.getElem?_eq_some_iff.mp hg).1
  refine ⟨g, rfl, hb, hlt, ⟨hc1, hc2⟩, fun d hd => ?_⟩
  intro t ht
  rw [size_flatK] at ht
  have hdl : d.size = L.length := by rw [← hd, List.length_map, Array.length_toList]
  have hi : t / 7 < d.size := by omega
  have hi' : t / 7 < L.length := by omega
  have hm : t % 7 < 7 := Nat.mod_lt _ (by decide)
  rw [get_flatK _ _ _ _ ht]
  have hx : L[t / 7] = (d[t / 7]!).1 := by
    have e1 : L[t / 7]? = (d.toList.map Subtype.val)[t / 7]? := by rw [hd]
    rw [List.getElem?_eq_getElem hi', List.getElem?_map, Array.getElem?_toList, Array.getElem?_eq_getElem hi] at e1
    rw [getElem!_pos d (t / 7) hi]
    exact Option.some.inj e1
  obtain ⟨b, off, e, hcell⟩ := hr (t / 7) hi'
  cases e
  have hlen : (L[t / 7]).cells.length = 7 := rfl
  have hu : (L[t / 7]).cells[t % 7]? = some ((spc d[t / 7]!)[t % 7]!) := by
    show _ = some (((d[t / 7]!).1.cells)[t % 7]!)
    rw [← hx, List.getElem?_eq_getElem (by rw [hlen]; exact hm), getElem!_pos _ _ (by rw [hlen]; exact hm)]
  have hc := hcell (t % 7) _ hu
  have et : 0 + t / 7 * 7 + t % 7 = 0 + t := by omega
  rw [et] at hc
  refine ⟨hc, ?_⟩
  simp [World.frozen?, hg]
theorem holds_row {w w' : World} {blk : Nat} {d : Array (SPl w blk)} (h : HoldsK spc 7 w' blk 0 d) : RowAt Pl.cells 7 w' (some ⟨blk, 0, none⟩) (d.toList.map Subtype.val) := by
  intro i hi
  have hi' : i < d.size := by rw [List.length_map, Array.length_toList] at hi; exact hi
  refine ⟨blk, 0, rfl, fun j u hu => ?_⟩
  rw [List.getElem_map, Array.getElem_toList] at hu
  have hj : j < 7 := (List.getElem?_eq_some_iff.1 hu).1
  have hc := (h.cell hi' hj).1
  have e : (spc d[i]!)[j]! = u := by
    rw [getElem!_pos d i hi']
    show ((d[i]).1.cells)[j]! = u
    rw [List.getElem!_eq_getElem?_getD, hu]
    rfl
  rw [e] at hc
  exact hc
theorem sort_weak {w : World} {blk : Nat} {d d' : Array (SPl w blk)} (hp : PermIn 0 d.size d d') (hs : SortedIn (ltOf spf) 0 d.size d') : (d'.toList.map Subtype.val).Perm (d.toList.map Subtype.val) ∧ Weak ((d'.toList.map Subtype.val).map Pl.x) := by
  obtain ⟨h1, _, h3⟩ := hp
  have e1 : d.extract 0 d.size = d := Array.extract_size
  have e2 : d'.extract 0 d.size = d' := by rw [← h1]; exact Array.extract_size
  rw [e1, e2] at h3
  refine ⟨h3.map _, ?_⟩
  unfold Weak
  rw [List.pairwise_iff_getElem]
  intro i j hi hj hij
  rw [List.length_map, List.length_map, Array.length_toList] at hi hj
  rw [List.getElem_map, List.getElem_map, List.getElem_map, List.getElem_map, Array.getElem_toList, Array.getElem_toList]
  have h := hs i j (Nat.zero_le _) hij (by omega)
  rw [getElem!_pos d' j hj, getElem!_pos d' i hi, spf_lt] at h
  exact h
theorem copy_in16 {B : Nat} {w : World} {v : Value} {L : List Pl} (h : CopyW B w v L) {p : Pl} (hp : p ∈ L) : p.in w := by
  refine ⟨?_, ?_, rowP_cap (h.prs p hp).1⟩
  · obtain ⟨a, c, e, h2, _⟩ := ens_of_row (h.vec p hp).1
    cases e
    exact h2
  · obtain ⟨a, c, e, h2, _⟩ := prs_of_row (h.prs p hp).1
    cases e
    exact h2
theorem sortFunc16 {B : Nat} {w : World} {ao : Option Addr} {cap : Nat} {L : List Pl} (h : CopyW B w (.slice ao L.length cap) L) (h0 : 0 < L.length) (hl : L.length ≤ 100) (hc : ∀ p ∈ L, sCheck p.x = 0 ∧ Ok15 p.x) :
    Calls Tryz.prog 63 #[.slice ao L.length cap, .func (.func 64) #[] #[]] w fun e w' => e = .returned (.tuple #[]) ∧ ∃ R : List Pl, R.Perm L ∧ Weak (R.map Pl.x) ∧ PlsAt w' ao R ∧ (∀ g off m, ao = some ⟨g, off, m⟩ → B ≤ g ∧ g < w.heap.size) ∧ (L.length ≤ cap ∧ cap ≤ maxLen) ∧ Keep (fun k => ∃ off m, ao = some ⟨k, off, m⟩) w w' := by
  obtain ⟨blk, rfl, hB, hblk, hcap, hH⟩ := own_holds h.row h0
  have hin : ∀ p ∈ L, SIn w blk p := by
    intro p hp
    exact ⟨(hc p hp).1, (hc p hp).2, copy_in16 h hp, fun g off m e => .inr (fun e2 => (h.vec p hp).2 g (by rw [e]; rfl) (by rw [e2]; rfl)), fun g off m e => .inr (fun e2 => (h.prs p hp).2 g (by rw [e]; rfl) (by rw [e2]; rfl))⟩
  obtain ⟨d, hd⟩ : ∃ d : Array (SPl w blk), d.toList.map Subtype.val = L := by
    refine ⟨(L.attachWith (SIn w blk) hin).toArray, ?_⟩
    simp
  have hds : d.size = L.length := by rw [← hd, List.length_map, Array.length_toList]
  have eg : ∀ args w, (callFunc 64 args).run Tryz.prog w = .ok (.enter 64 args) w := enters_of Tryz.func64 (by kernel_rfl) rfl
  have hcon := AnyQ.slices_SortFunc zSortF16 7 Tryz.isAgg61 Tryz.sizeOf61 spc (fun _ => rfl) (fun x v hv => pl_one x.1 v hv) spf (spf_swo w blk) 64 #[] blk 0 cap d w eg (spf_lays w blk 0 d.size) (hH d hd) hblk (by omega)
  change Calls Tryz.prog 63 _ _ _ at hcon
  rw [hds] at hcon
  refine hcon.mono ?_
  rintro e w' ⟨rfl, d', n, os, hp, hs, rfl⟩
  have hp' : PermIn 0 d.size d d' := by rw [hds]; exact hp
  have hs' : SortedIn (ltOf spf) 0 d.size d' := by rw [hds]; exact hs
  obtain ⟨p1, p2⟩ := sort_weak hp' hs'
  have K := keep_sortWorld (spc (w := w) (blk := blk)) 7 w blk 0 n d' os
  have hH' := holdsK_sortWorldK_c (spc (w := w) (blk := blk)) 7 w blk 0 d d' n os (hH d hd) hblk hp'.1
  rw [hd] at p1
  refine ⟨rfl, d'.toList.map Subtype.val, p1, p2, ⟨holds_row hH', fun p hp => ?_⟩, fun g off m e => by cases e; exact ⟨hB, hblk⟩, hcap, K.mono (fun k _ e => ⟨0, none, by rw [e]⟩)⟩
  obtain ⟨q, _, rfl⟩ := List.mem_map.1 hp
  exact q.2.keep K
set_option maxRecDepth 100000 in
set_option maxHeartbeats 8000000 in
theorem sort16 (w : World) (key : ByteArray) (ao : Option Addr) (cap : Nat) (l : List Sb) (ok : Ok16 ⟨key, l⟩) (hc : SibsAt w ao l) (_ : l.length ≤ cap) (_ : cap ≤ maxLen) :
    Calls Tryz.prog 31 #[.string key, .slice ao l.length cap] w (RObS (oSort key l) w) := by
  have HE : Hid (∀ (W : World) (e : Ending) (E : Int), oSort key l = (zOb, E) → e = .returned (.tuple #[.agg #[.string ⟨#[]⟩, .slice none 0 0], .int .i64 E]) → Keep0 w W → RObS (oSort key l) w e W) := fun _ _ _ h1 h2 h3 => RObS.bare h1 h2 h3
  have HM : Hid (∀ (W : World) (e : Ending) (O : List Pl) (vo : Option Addr) (vc : Nat), oSort key l = (⟨key, O.map Pl.x⟩, 0) → e = .returned (.tuple #[.agg #[.string key, .slice vo O.length vc], .int .i64 0]) → PlsAt W vo O → (∀ g off m, vo = some ⟨g, off, m⟩ → w.heap.size ≤ g) → (O.length ≤ vc ∧ vc ≤ maxLen) → Keep0 w W → RObS (oSort key l) w e W) := fun _ _ _ _ _ h1 h2 h3 h4 h5 h6 => RObS.mk h1 h2 h3 h4 h5 h6
  have hkey : key.size ≤ 1000000 := ok.key
  have hlen : l.length ≤ 100 := ok.len
  have hsib : ∀ x ∈ l, Ok15 x := ok.sib
  have i0 : (l.length : Int) ≤ 9223372036854775807 := by omega
  have kA : Keep0 w (w.alloc (.cells #[.string ⟨#[]⟩, .slice none 0 0] 27)) := (Keep.refl _ w).alloc _
  have q4 : DAt (w.alloc (.cells #[.string ⟨#[]⟩, .slice none 0 0] 27)) w.heap.size (.string ⟨#[]⟩) (.slice none 0 0) := DAt.new w 27 (.string ⟨#[]⟩) (.slice none 0 0)
  have z4 : (w.alloc (.cells #[.string ⟨#[]⟩, .slice none 0 0] 27)).heap.size = w.heap.size + 1 := by rw [World.size_alloc]
  have yo := fun W => head16 W key (by unfold maxLen; omega) l.length
  have ya := fun W (h : SibsAt W ao l) => alone16 W ao cap l (by unfold maxLen; omega) hsib h
  have yc := fun W (h : SibsAt W ao l) => copy16_any W ao cap key l hlen hsib h
  have HC : Hid (SibsAt w ao l) := hc
  have HS : Hid (∀ x ∈ l, Ok15 x) := hsib
  have HLn : Hid (l.length ≤ 100) := hlen
  have HKy : Hid (key.size ≤ 1000000) := hkey
  clear ok hc hsib hkey hlen
  go_enter Tryz.func31, Tryz.ntmps31
  go_wp2_with fail
  generalize (w.alloc (.cells #[.string ⟨#[]⟩, .slice none 0 0] 27)) = W0 at *
  obtain ⟨g4, hg4⟩ : ∃ g4, w.heap.size = g4 := ⟨_, rfl⟩
  rw [hg4] at q4 z4 ⊢
  have HG4 : Hid (w.heap.size = g4) := hg4
  have HQ4 : Hid (DAt W0 g4 (.string ⟨#[]⟩) (.slice none 0 0)) := q4
  have HKA : Hid (Keep0 w W0) := kA
  have HZ4 : Hid (W0.heap.size = g4 + 1) := z4
  clear kA hg4 z4 q4
  refine (yo _).mono ?_
  rintro e w1 ⟨rfl, rfl⟩
  clear yo
  by_cases h0 : outS key l.length = 0
  case neg =>
    have HV : Hid (oSort key l = (zOb, outS key l.length)) := oSort_out h0
    have e0 : (outS key l.length != 0) = true := by simpa using h0
    obtain ⟨u0, u1, f0, f1⟩ := HQ4.out.cells
    clear h0 HM ya yc
    generalize outS key l.length = E at *
    go_wp2
    refine bodyPost_ret (retOb2 rfl _ _ _ rfl (HQ4.out.put (.string ⟨#[]⟩) (.slice none 0 0))) rfl ?_
    exact HE.out _ _ _ HV.out rfl (HKA.out.step (put2_keep _ _ _ _) (fun i hi e => by have := HG4.out; omega))
  have HO : Hid (outS key l.length = 0) := h0
  rw [h0]
  clear h0
  have ya := ya _ (HC.out.keep0 HKA.out)
  go_wp2_with fail
  refine ya.mono ?_
  rintro e w2 ⟨rfl, k2⟩
  have HKA : Hid (Keep0 w w2) := HKA.out.trans k2
  have HQ4 : Hid (DAt w2 g4 (.string ⟨#[]⟩) (.slice none 0 0)) := HQ4.out.keep0 k2
  have HZ4 : Hid (g4 + 1 ≤ w2.heap.size) := by show _ ≤ _; have := HZ4.out; have := k2.size; omega
  clear ya k2
  by_cases h1 : sBad l = 0
  case neg =>
    have HV : Hid (oSort key l = (zOb, sBad l)) := oSort_bad HO.out h1
    have e0 : (sBad l != 0) = true := by simpa using h1
    obtain ⟨u0, u1, f0, f1⟩ := HQ4.out.cells
    clear h1 HM yc
    generalize sBad l = E at *
    go_wp2
    refine bodyPost_ret (retOb2 rfl _ _ _ rfl (HQ4.out.put (.string ⟨#[]⟩) (.slice none 0 0))) rfl ?_
    exact HE.out _ _ _ HV.out rfl (HKA.out.step (put2_keep _ _ _ _) (fun i hi e => by have := HG4.out; omega))
  have HB : Hid (sBad l = 0) := h1
  rw [h1]
  clear h1
  have yc := yc _ (HC.out.keep0 HKA.out)
  go_wp2_with fail
  refine yc.mono ?_
  rintro e w3 ⟨ao2, cap2, L, rfl, hL, ⟨hW, _⟩, k3⟩
  have HL : Hid (L.map Pl.x = l) := hL
  have hln : L.length = l.length := by rw [← hL, List.length_map]
  have HLl : Hid (L.length = l.length) := hln
  have HK3 : Hid (Keep0 w w3) := HKA.out.trans k3
  have HQ3 : Hid (DAt w3 g4 (.string ⟨#[]⟩) (.slice none 0 0)) := HQ4.out.keep0 k3
  have hz3 : g4 + 1 ≤ w3.heap.size := by have := HZ4.out; have := k3.size; omega
  have kB : Keep0 w3 (w3.alloc (.cells #[.string key, .slice ao2 L.length cap2] 27)) := (Keep.refl _ w3).alloc _
  have q8 := DAt.new w3 27 (.string key) (.slice ao2 L.length cap2)
  have HK8 : Hid (Keep0 w (w3.alloc (.cells #[.string key, .slice ao2 L.length cap2] 27))) := HK3.out.trans kB
  have HQ8 : Hid (DAt (w3.alloc (.cells #[.string key, .slice ao2 L.length cap2] 27)) g4 (.string ⟨#[]⟩) (.slice none 0 0)) := HQ3.out.keep0 kB
  have hW8 := hW.keep0 kB
  have hlt8 : ∀ g, Value.ownBlock (.slice ao2 L.length cap2) = some g → w2.heap.size ≤ g ∧ g < w3.heap.size := fun g e => hW.row.lt g e
  have HOw : Hid (∀ g, Value.ownBlock (.slice ao2 L.length cap2) = some g → w2.heap.size ≤ g ∧ g < w3.heap.size) := hlt8
  have hnew : ∀ p ∈ L, (∀ g off m, p.vo = some ⟨g, off, m⟩ → w2.heap.size ≤ g) ∧ (∀ g off m, p.po = some ⟨g, off, m⟩ → w2.heap.size ≤ g) := fun p hp => ⟨fun g off m e => ((hW.vec p hp).1.lt g (by rw [e]; rfl)).1, fun g off m e => ((hW.prs p hp).1.lt g (by rw [e]; rfl)).1⟩
  have HNew : Hid (∀ p ∈ L, (∀ g off m, p.vo = some ⟨g, off, m⟩ → w2.heap.size ≤ g) ∧ (∀ g off m, p.po = some ⟨g, off, m⟩ → w2.heap.size ≤ g)) := hnew
  have hpos : 0 < L.length := by have := (outS_zero.1 HO.out).2.2.1; omega
  have hall : ∀ p ∈ L, sCheck p.x = 0 ∧ Ok15 p.x := by
    intro p hp
    have hm : p.x ∈ l := by rw [← hL]; exact List.mem_map_of_mem hp
    exact ⟨sBad_zero.1 HB.out _ hm, HS.out _ hm⟩
  have ys := sortFunc16 hW8 hpos (by rw [hln]; exact HLn.out) hall
  obtain ⟨x0, x1, f0, f1⟩ := q8.cells
  have HQS : Hid (DAt (w3.alloc (.cells #[.string key, .slice ao2 L.length cap2] 27)) w3.heap.size (.string key) (.slice ao2 L.length cap2)) := q8
  have HZ3 : Hid (g4 + 1 ≤ w3.heap.size) := hz3
  clear yc k3 kB hL hW hW8 hln hz3 q8 hlt8 hnew hpos hall HKA HQ4 HK3 HQ3
  go_wp2_with fail
  generalize (w3.alloc (.cells #[.string key, .slice ao2 L.length cap2] 27)) = W8 at *
  obtain ⟨g8, hg8⟩ : ∃ g8, w3.heap.size = g8 := ⟨_, rfl⟩
  rw [hg8] at x0 x1 f0 f1 HQS HZ3 HOw ⊢
  clear hg8
  refine ys.mono ?_
  rintro e w5 ⟨rfl, R, hp, hw, hR, hown, hcp, k5⟩
  have off5 : ∀ g, (∃ off m, ao2 = some ⟨g, off, m⟩) → w2.heap.size ≤ g ∧ g < g8 := by
    rintro g ⟨off, m, e⟩
    exact HOw.out g (by rw [e]; rfl)
  have HK5 : Hid (Keep0 w w5) := HK8.out.step k5 (fun i hi e => by have := off5 i e; have := HZ4.out; have := HG4.out; omega)
  have HQ5 : Hid (DAt w5 g4 (.string ⟨#[]⟩) (.slice none 0 0)) := HQ8.out.keep k5 (fun e => by have := off5 _ e; have := HZ4.out; omega)
  have q85 := HQS.out.keep k5 (fun e => by have := off5 _ e; omega)
  have hRl : R.length = L.length := hp.length_eq
  have hRm : (R.map Pl.x).Perm l := by have := hp.map Pl.x; rw [HL.out] at this; exact this
  have hval : oSort key l = if oCheck ⟨key, R.map Pl.x⟩ = 0 then (⟨key, R.map Pl.x⟩, 0) else (zOb, oCheck ⟨key, R.map Pl.x⟩) := oSort_weak HO.out HB.out hRm hw
  have yk := check16_any w5 ao2 cap2 key (R.map Pl.x) (by have := HKy.out; unfold maxLen; omega) (by have := HLn.out; have := HLl.out; rw [List.length_map]; unfold maxLen; omega) (fun x hx => HS.out x (hRm.mem_iff.1 hx)) (by rw [List.length_map, hRl]; exact hcp) hR.sibs
  rw [List.length_map, hRl] at yk
  have HVal : Hid (oSort key l = if oCheck ⟨key, R.map Pl.x⟩ = 0 then (⟨key, R.map Pl.x⟩, 0) else (zOb, oCheck ⟨key, R.map Pl.x⟩)) := hval
  have HR : Hid (PlsAt w5 ao2 R) := hR
  have HRl : Hid (R.length = L.length) := hRl
  have HCp : Hid (L.length ≤ cap2 ∧ cap2 ≤ maxLen) := hcp
  have HOn : Hid (∀ g off m, ao2 = some ⟨g, off, m⟩ → g4 + 1 ≤ g) := fun g off m e => by have := off5 g ⟨off, m, e⟩; have := HZ4.out; omega
  have HNR : Hid (∀ p ∈ R, (∀ g off m, p.vo = some ⟨g, off, m⟩ → g4 + 1 ≤ g) ∧ (∀ g off m, p.po = some ⟨g, off, m⟩ → g4 + 1 ≤ g)) := by
    intro p hpm
    obtain ⟨n1, n2⟩ := HNew.out p (hp.mem_iff.1 hpm)
    have := HZ4.out
    exact ⟨fun g off m e => by have := n1 g off m e; omega, fun g off m e => by have := n2 g off m e; omega⟩
  have HQ85 : Hid (DAt w5 g8 (.string key) (.slice ao2 L.length cap2)) := q85
  obtain ⟨x0, x1, f0, f1⟩ := q85.cells
  clear ys hp hw hR hown hcp k5 off5 q85 hRl hRm hval HK8 HQ8 HQS
  generalize oCheck ⟨key, R.map Pl.x⟩ = C at *
  go_wp2_with fail
  refine yk.mono ?_
  rintro e w6 ⟨rfl, k6⟩
  have HKA : Hid (Keep0 w w6) := HK5.out.trans k6
  have HQ4 : Hid (DAt w6 g4 (.string ⟨#[]⟩) (.slice none 0 0)) := HQ5.out.keep0 k6
  have HR6 : Hid (PlsAt w6 ao2 R) := HR.out.keep0 k6
  obtain ⟨y0, y1, h0, h1⟩ := (HQ85.out.keep0 k6).cells
  obtain ⟨u0, u1, v0, v1⟩ := HQ4.out.cells
  clear yk k6 HK5 HQ5 HR HQ85 x0 x1 f0 f1
  by_cases hC : C = 0
  case neg =>
    have HV : Hid (oSort key l = (zOb, C)) := by
      show _ = _
      rw [HVal.out, if_neg hC]
    have e0 : (C != 0) = true := by simpa using hC
    clear hC HM
    go_wp2
    refine bodyPost_ret (retOb2 rfl _ _ _ rfl (HQ4.out.put (.string ⟨#[]⟩) (.slice none 0 0))) rfl ?_
    exact HE.out _ _ _ HV.out rfl (HKA.out.step (put2_keep _ _ _ _) (fun i hi e => by have := HG4.out; omega))
  have HV : Hid (oSort key l = (⟨key, R.map Pl.x⟩, 0)) := by
    show _ = _
    rw [HVal.out, if_pos hC]
  subst hC
  clear HVal
  go_wp2
  refine bodyPost_ret (retOb2 rfl _ _ _ rfl (HQ4.out.put (.string key) (.slice ao2 L.length cap2))) rfl ?_
  have hk := put2_keep w6 g4 (.string key) (.slice ao2 L.length cap2)
  have hl := HRl.out
  refine HM.out _ _ R ao2 cap2 HV.out (by rw [hl]; rfl) ⟨HR6.out.row.keep hk (fun g off m e => by have := HOn.out g off m e; omega), fun p hp => ?_⟩ (fun g off m e => by have := HOn.out g off m e; have := HG4.out; omega) (by rw [hl]; exact HCp.out) (HKA.out.step hk (fun i hi e => by have := HG4.out; omega))
  exact ⟨(HR6.out.ins p hp).ens.keep hk (fun g off m e => by have := (HNR.out p hp).1 g off m e; omega), (HR6.out.ins p hp).prs.keep hk (fun g off m e => by have := (HNR.out p hp).2 g off m e; omega), (HR6.out.ins p hp).room⟩
end Go.Proofs.YtoefibkhlhmlfaaGreat
