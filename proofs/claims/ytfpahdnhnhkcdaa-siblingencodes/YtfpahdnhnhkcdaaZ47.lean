/-
  What this seat's claims lean on of the texts Great15.
  Conditions: as each theorem states.
-/
import Derived.WalkKit
import Derived.ProofKit
import Derived.Below
import Derived.Deep.Draws
import Derived.Deep.RegionHeld
import Derived.Test.YtfpahdnhnhkcdaaChecked
import Derived.OpenShut
import Derived.ShutString
import Derived.WalkSpells
import Derived.WalkLawsBesides
import Derived.Deep.QuietTactic
import Derived.BigQuiet
import Derived.Laws.Bits64b
import Derived.PlainAid
import Derived.Lib.AppendStr
import Derived.Deep.AppendLies
import Derived.Laws.IdiomStrings
import Derived.Laws.BytesArg
import Derived.Deep.RegionWith
import Derived.Laws.AppendOwn
import Derived.Deep.DeepAppendWide
import Derived.Deep.Upon
import Derived.Laws.Rows
import Derived.Deep.Slices
import Derived.Lib.ConvBytes
import Derived.Deep.OwnRows
import Derived.Test.YtfpahdnhnhkcdaaZ27
import Derived.Test.YtfpahdnhnhkcdaaZ46
namespace Go.Proofs.Ytfpahdnhnhkcdaa
open Go.RowKit
def gSib (c : UInt8) (a b : Nat) : Sb := ⟨zCk, [⟨⟨#[110]⟩, gTxt c a⟩], false, gTxt c b⟩
theorem vText_3 {n : Nat} (h1 : 16384 ≤ n) (h2 : n < 2097152) : (vText n).size = 3 := by
  have a1 := vEnc_len_lt 2 n (by omega)
  have a2 := vEnc_len_ge 2 n (by omega)
  rw [vText_size]
  omega
theorem gTxt_cut (c : UInt8) {n m : Nat} (h : m ≤ n) : (gTxt c n).extract 0 m = gTxt c m := by
  apply ByteArray.ext
  rw [ByteArray.data_extract]
  apply Array.toList_inj.1
  simp [gTxt]
  omega
theorem gSib_size (c : UInt8) {a b : Nat} (ha : 16384 ≤ a) (ha' : a ≤ 32768) (hb : 16384 ≤ b) (hb' : b ≤ 32768) : (eSib (gSib c a b)).size = 12 + a + b := by
  have e0 : (vText 0).size = 1 := by rw [vText_size, vEnc_lt (by decide)]; rfl
  have e1 : (vText 1).size = 1 := by rw [vText_size, vEnc_lt (by decide)]; rfl
  have e2 := vText_3 ha (by omega)
  have e3 := vText_3 hb (by omega)
  have e4 : (⟨#[]⟩ : ByteArray).size = 0 := rfl
  have e5 : (⟨#[110]⟩ : ByteArray).size = 1 := rfl
  have e6 : eSib (gSib c a b) = ((vText 0 ++ ⟨#[]⟩) ++ (one 0 ++ ⟨#[]⟩)) ++ ((vText 1 ++ ((bEncT ⟨#[110]⟩ ++ bEncT (gTxt c a)) ++ ⟨#[]⟩)) ++ (one 0 ++ bEncT (gTxt c b))) := rfl
  rw [e6]
  unfold bEncT
  simp only [ByteArray.size_append, gTxt_size, one_size, e0, e1, e2, e3, e4, e5]
  omega
theorem gSib_ok (c : UInt8) {a b : Nat} (ha' : a ≤ 32768) (hb' : b ≤ 32768) : okSib (gSib c a b) := by
  have h1 : okClk zCk := by
    refine ⟨by rfl, fun y hy => ?_, ?_⟩
    · exact absurd hy List.not_mem_nil
    · show 0 < 18446744073709551616
      omega
  refine ⟨h1, ?_, by show (gTxt c b).size ≤ 32768; rw [gTxt_size]; exact hb'⟩
  exact (one_okP (m := ⟨⟨#[110]⟩, gTxt c a⟩)).2 ⟨by show 0 < 1; decide, by show 1 ≤ 32; decide, by show (gTxt c a).size ≤ 32768; rw [gTxt_size]; exact ha'⟩
set_option maxRecDepth 100000 in
set_option maxHeartbeats 8000000 in
theorem siblingGreat_go (V : SibCode) (w : World) (c : UInt8) (less more : Int) (l0 : 0 ≤ less) (l1 : less ≤ 255) (m0 : 0 ≤ more) (m1 : more ≤ 255) (a b : Nat) (ha : 32768 - less = (a : Int)) (hb : 32768 - more = (b : Int)) :
    Calls Try.prog 6 #[.int .u8 (c.toNat : Int), .int .u8 less, .int .u8 more] w fun e w' => e = .returned (.bool true) ∧ Keep0 w w' := by
  have ok := gSib_ok c (a := a) (b := b) (by omega) (by omega)
  have hsz := gSib_size c (a := a) (b := b) (by omega) (by omega) (by omega) (by omega)
  have hen : encS (gSib c a b) = if ((eSib (gSib c a b)).size : Int) ≤ 65536 then (eSib (gSib c a b), 0) else (⟨#[]⟩, 3) := if_pos ok.zero
  have hde : decS (eSib (gSib c a b)) = (gSib c a b, 0) := sib_codec.dec_enc ok
  have hca := gTxt_cut c (n := 32768) (m := a) (by omega)
  have hcb := gTxt_cut c (n := 32768) (m := b) (by omega)
  have hza := gTxt_size c a
  have hzb := gTxt_size c b
  have hzL := gTxt_size c 32768
  have HIN : Hid (∀ W po, PrsAt W po [⟨⟨#[110]⟩, gTxt c a⟩] → SibIn W none po 1 (gSib c a b)) := fun W po h => ⟨ens_nil _ _, h, Nat.le_refl _, by show 1 ≤ maxLen; unfold maxLen; decide⟩
  have HYE : Hid (∀ W po, PrsAt W po [⟨⟨#[110]⟩, gTxt c a⟩] → Calls Try.prog 10 #[.agg #[.slice none 0 0, .bool false, .string ⟨#[]⟩, .int .u64 0, .slice po 1 1, .bool false, .string (gTxt c b)]] W fun e w' => e = .returned (.tuple #[.string (encS (gSib c a b)).1, .int .i64 (encS (gSib c a b)).2]) ∧ Keep0 W w') := fun W po h => V.encode W none 0 po 1 (gSib c a b) ok.ok (HIN.out W po h)
  have HYC : Hid (∀ W po, PrsAt W po [⟨⟨#[110]⟩, gTxt c a⟩] → Calls Try.prog 12 #[.agg #[.slice none 0 0, .bool false, .string ⟨#[]⟩, .int .u64 0, .slice po 1 1, .bool false, .string (gTxt c b)]] W fun e w' => e = .returned (.int .i64 0) ∧ Keep0 W w') := fun W po h => by
    have := V.check W none 0 po 1 (gSib c a b) ok.ok (HIN.out W po h)
    rw [ok.zero] at this
    exact this
  have HYS : Hid (∀ W po uo uc ro rc, PrsAt W po [⟨⟨#[110]⟩, gTxt c a⟩] → SibIn W uo ro rc (gSib c a b) → Calls Try.prog 15 #[.agg #[.slice none 0 0, .bool false, .string ⟨#[]⟩, .int .u64 0, .slice po 1 1, .bool false, .string (gTxt c b)], .agg #[.slice uo 0 uc, .bool false, .string ⟨#[]⟩, .int .u64 0, .slice ro 1 rc, .bool false, .string (gTxt c b)]] W fun e w' => e = .returned (.bool true) ∧ Keep0 W w') := fun W po uo uc ro rc h h' => by
    have := rsame15 W none 0 po 1 (gSib c a b) uo uc ro rc (gSib c a b) ok.ok.fit ok.ok.fit (HIN.out W po h) h'
    rw [sSame_iff.2 rfl] at this
    exact this
  have HYD : Hid (∀ W, (eSib (gSib c a b)).size ≤ 65536 → Calls Try.prog 17 #[.string (eSib (gSib c a b))] W fun e w' => ∃ uo uc ro rc, e = .returned (.tuple #[.agg #[.slice uo 0 uc, .bool false, .string ⟨#[]⟩, .int .u64 0, .slice ro 1 rc, .bool false, .string (gTxt c b)], .int .i64 0]) ∧ SibIn w' uo ro rc (gSib c a b) ∧ Keep0 W w') := fun W hs => by
    have := V.decode W (eSib (gSib c a b)) (by omega)
    rw [hde] at this
    refine this.mono ?_
    rintro e w' ⟨uo, uc, ro, rc, rfl, h1, _, _, h2⟩
    exact ⟨uo, uc, ro, rc, rfl, h1, h2⟩
  have hgt : ∀ W g, W.rowIs g 5 32768 (gRow c 32768) → (convert 70 9 (.slice (some ⟨g, 0, none⟩) 32768 32768)).run Try.prog W = .ok (.string (gTxt c 32768)) W := fun W g h => run_gTxt h
  have hmk := run_make_row' (P := Try.prog) 70 5 (.int .u8 0) 1 Try.underlying70 infoU8 rfl .i64 .i64 32768 (by omega) (by omega)
  have e32 : ((32768 : Nat) : Int) = 32768 := rfl
  simp only [e32] at hmk
  have hmr := fun W => World.rowIs_made W (.int .u8 0) 32768 5
  have hmK := fun W : World => (Keep.refl (fun _ => False) W).alloc (.cells (madeCells #[.int .u8 0] 32768) 5)
  generalize madeCells #[.int .u8 0] 32768 = MC at *
  have i1 : IntKind.i64.wrap less = less := by rw [IntKind.wrap_i64]; omega
  have i2 : IntKind.i64.wrap more = more := by rw [IntKind.wrap_i64]; omega
  have i5 : IntKind.i64.wrap (a : Int) = a := by rw [IntKind.wrap_i64]; omega
  have i6 : IntKind.i64.wrap (b : Int) = b := by rw [IntKind.wrap_i64]; omega
  have i7 : (a : Int) ≤ 32768 := by omega
  have i8 : (b : Int) ≤ 32768 := by omega
  have HSI : Hid (∀ W uo ro rc, SibIn W uo ro rc (gSib c a b) → SibIn W uo ro rc (gSib c a b)) := fun _ _ _ _ h => h
  generalize hF : eSib (gSib c a b) = F at *
  generalize hEN : encS (gSib c a b) = EN at *
  generalize gTxt c 32768 = S at *
  generalize gTxt c a = TA at *
  generalize gTxt c b = TB at *
  generalize gSib c a b = G at *
  clear hF hEN ok hde HIN HSI
  go_enter Try.func6, Try.ntmps6
  go_wp2_with fail
  refine (awake15 V w).mono ?_
  rintro e w1 ⟨rfl, K1⟩
  have hmr := hmr w1
  have K2 := K1.trans (hmK w1)
  have s1' := K1.size
  clear hmK K1
  go_wp2_with fail
  generalize w1.alloc (.cells MC 5) = w2 at *
  generalize w1.heap.size = g at *
  have hr2 : w2.rowIs g 5 32768 (gRow c 0) := hmr.congr (fun i _ => (gRow_zero c i).symm)
  clear hmr
  go_loopw [8] (fun i wr => ∃ k : Nat, k ≤ 32768 ∧ i = .int .i64 k ∧ wr.rowIs g 5 32768 (gRow c k) ∧ Keep0 w wr) (fun i _ => 32768 - (intOf i).toNat)
  case atStart => exact ⟨0, by omega, rfl, hr2, K2⟩
  case round =>
    obtain ⟨k, hk, rfl, hrow, hkp⟩ := hrel
    clear hr2 K2
    by_cases hlt : k < 32768
    · have hc0 := hrow.cell hlt
      rw [gRow_at] at hc0
      have hf0 := hrow.frozen k
      have hlt' : (k : Int) < 32768 := by omega
      have hd' : decide ((k : Int) < 32768) = true := decide_eq_true hlt'
      have hr3 := (hrow.set k (.int .u8 (c.toNat : Int))).congr (g := gRow c (k + 1)) (fun j _ => gRow_set c k j)
      have K3 := hkp.setNew (p := ⟨g, k, none⟩) s1' (.int .u8 (c.toNat : Int))
      clear hgt hca hcb hza hzb hzL hsz hen
      go_wp2
      go_roundw
      case rel => exact ⟨k + 1, by omega, by go_num, hr3, K3⟩
      case measure => simp [intOf]; omega
    · obtain rfl : k = 32768 := by omega
      have hcv := hgt _ _ hrow
      clear hgt hmk
      go_wp2_with fail
      have kA : Keep0 w ((wr.alloc (.cells #[.string ⟨#[110]⟩, .string TA] 43)).alloc (.cells #[.slice none 0 0, .bool false, .string ⟨#[]⟩, .int .u64 0, .slice (some ⟨wr.heap.size, 0, none⟩) 1 1, .bool false, .string TB] 30)).drew := ((hkp.alloc _).alloc _).drew
      have sA : SAt ((wr.alloc (.cells #[.string ⟨#[110]⟩, .string TA] 43)).alloc (.cells #[.slice none 0 0, .bool false, .string ⟨#[]⟩, .int .u64 0, .slice (some ⟨wr.heap.size, 0, none⟩) 1 1, .bool false, .string TB] 30)).drew (wr.heap.size + 1) (.slice none 0 0) (.bool false) (.string ⟨#[]⟩) (.int .u64 0) (.slice (some ⟨wr.heap.size, 0, none⟩) 1 1) (.bool false) (.string TB) := by
        have := SAt.new (wr.alloc (.cells #[.string ⟨#[110]⟩, .string TA] 43)) 30 (.slice none 0 0) (.bool false) (.string ⟨#[]⟩) (.int .u64 0) (.slice (some ⟨wr.heap.size, 0, none⟩) 1 1) (.bool false) (.string TB)
        rw [World.size_alloc] at this
        exact this.keep0 ((Keep.refl _ _).drew)
      have pA : PrsAt ((wr.alloc (.cells #[.string ⟨#[110]⟩, .string TA] 43)).alloc (.cells #[.slice none 0 0, .bool false, .string ⟨#[]⟩, .int .u64 0, .slice (some ⟨wr.heap.size, 0, none⟩) 1 1, .bool false, .string TB] 30)).drew (some ⟨wr.heap.size, 0, none⟩) [⟨⟨#[110]⟩, TA⟩] := (pr_new wr 43 ⟨⟨#[110]⟩, TA⟩).keep0 (((Keep.refl _ _).alloc _).drew)
      have kB : Keep0 w ((wr.alloc (.cells #[.slice none 0 0, .bool false, .string ⟨#[]⟩, .int .u64 0, .slice (some ⟨wr.heap.size + 1, 0, none⟩) 1 1, .bool false, .string TB] 30)).alloc (.cells #[.string ⟨#[110]⟩, .string TA] 43)).drew := ((hkp.alloc _).alloc _).drew
      have sB : SAt ((wr.alloc (.cells #[.slice none 0 0, .bool false, .string ⟨#[]⟩, .int .u64 0, .slice (some ⟨wr.heap.size + 1, 0, none⟩) 1 1, .bool false, .string TB] 30)).alloc (.cells #[.string ⟨#[110]⟩, .string TA] 43)).drew wr.heap.size (.slice none 0 0) (.bool false) (.string ⟨#[]⟩) (.int .u64 0) (.slice (some ⟨wr.heap.size + 1, 0, none⟩) 1 1) (.bool false) (.string TB) := (SAt.new wr 30 (.slice none 0 0) (.bool false) (.string ⟨#[]⟩) (.int .u64 0) (.slice (some ⟨wr.heap.size + 1, 0, none⟩) 1 1) (.bool false) (.string TB)).keep0 (((Keep.refl _ _).alloc _).drew)
      have pB : PrsAt ((wr.alloc (.cells #[.slice none 0 0, .bool false, .string ⟨#[]⟩, .int .u64 0, .slice (some ⟨wr.heap.size + 1, 0, none⟩) 1 1, .bool false, .string TB] 30)).alloc (.cells #[.string ⟨#[110]⟩, .string TA] 43)).drew (some ⟨wr.heap.size + 1, 0, none⟩) [⟨⟨#[110]⟩, TA⟩] := by
        have := (pr_new (wr.alloc (.cells #[.slice none 0 0, .bool false, .string ⟨#[]⟩, .int .u64 0, .slice (some ⟨wr.heap.size + 1, 0, none⟩) 1 1, .bool false, .string TB] 30)) 43 ⟨⟨#[110]⟩, TA⟩).keep0 ((Keep.refl _ _).drew)
        rw [World.size_alloc] at this
        exact this
      go_region_with (fail)
      · clear kB sB pB
        generalize ((wr.alloc (.cells #[.string ⟨#[110]⟩, .string TA] 43)).alloc (.cells #[.slice none 0 0, .bool false, .string ⟨#[]⟩, .int .u64 0, .slice (some ⟨wr.heap.size, 0, none⟩) 1 1, .bool false, .string TB] 30)).drew = W at *
        generalize hgs : wr.heap.size + 1 = gS at *
        generalize wr.heap.size = gP at *
        have K9 := kA
        have s9 := sA
        have p9 := pA
        clear kA sA pA hgs hkp hrow hcv
        have HP : Hid (PrsAt W (some ⟨gP, 0, none⟩) [⟨⟨#[110]⟩, TA⟩]) := p9
        obtain ⟨d0, d1, d2, d3, d4, d5, d6, f0, f1, f2, f3, f4, f5, f6⟩ := s9.cells
        obtain ⟨pb, po, pe, v0, v1⟩ := p9 0 (by show 0 < 1; decide)
        cases pe
        have v1 : W.cell? ⟨gP, 1, none⟩ = some (.string TA) := v1
        clear p9 v0 f0 f1 f2 f3 f4 f5 f6
        have q1 : IntKind.i64.wrap (8 + (a : Int)) = 8 + (a : Int) := by rw [IntKind.wrap_i64]; omega
        have q2 : IntKind.i64.wrap (8 + (a : Int) + 1) = 8 + (a : Int) + 1 := by rw [IntKind.wrap_i64]; omega
        have q3 : IntKind.i64.wrap (8 + (a : Int) + 1 + 3) = 8 + (a : Int) + 1 + 3 := by rw [IntKind.wrap_i64]; omega
        have q4 : IntKind.i64.wrap (8 + (a : Int) + 1 + 3 + (b : Int)) = 8 + (a : Int) + 1 + 3 + (b : Int) := by rw [IntKind.wrap_i64]; omega
        have i9 : (a : Int) ≤ 9223372036854775807 := by omega
        have i10 : (b : Int) ≤ 9223372036854775807 := by omega
        go_wp2_with fail
        go_quiet (fail)
        have K10 : Keep0 w (W.drewN nq) := K9.drewN nq
        have kq : Keep0 W (W.drewN nq) := (Keep.refl _ W).drewN nq
        replace d0 := kq.cell d0 (fun f => f)
        replace d1 := kq.cell d1 (fun f => f)
        replace d2 := kq.cell d2 (fun f => f)
        replace d3 := kq.cell d3 (fun f => f)
        replace d4 := kq.cell d4 (fun f => f)
        replace d5 := kq.cell d5 (fun f => f)
        replace d6 := kq.cell d6 (fun f => f)
        replace v1 := kq.cell v1 (fun f => f)
        have HP1 : Hid (PrsAt (W.drewN nq) (some ⟨gP, 0, none⟩) [⟨⟨#[110]⟩, TA⟩]) := HP.out.keep0 kq
        have s10 := s9.keep0 kq
        clear K9 kq HP s9
        generalize W.drewN nq = W2 at *
        clear nq
        have t1 : decide ((a : Int) < 16384) = false := decide_eq_false (by omega)
        have t2 : decide ((b : Int) < 16384) = false := decide_eq_false (by omega)
        have t3 : ¬ (a : Int) < 16384 := by omega
        have t4 : ¬ (b : Int) < 16384 := by omega
        have ye := HYE.out W2 _ HP1.out
        have yc := HYC.out
        have hFs : (F.size : Int) = 8 + (a : Int) + 1 + 3 + (b : Int) := by omega
        have hFm : 8 + (a : Int) + 1 + 3 + (b : Int) ≤ 9223372036854775807 := by omega
        by_cases hN : 12 + a + b ≤ 65536
        · have hEN : EN = (F, 0) := by rw [hen, if_pos (by omega)]
          have t5 : decide ((65536 : Int) < 8 + (a : Int) + 1 + 3 + (b : Int)) = false := decide_eq_false (by omega)
          have t6 : ¬ (65536 : Int) < 8 + (a : Int) + 1 + 3 + (b : Int) := by omega
          rw [hEN] at ye
          have HF : Hid (F.size ≤ 65536) := by show _ ≤ _; omega
          clear hen hsz hEN
          go_wp2_with fail
          refine ye.mono ?_
          rintro e w3 ⟨rfl, k3⟩
          have K11 := K10.trans k3
          replace d0 := k3.cell d0 (fun f => f)
          replace d1 := k3.cell d1 (fun f => f)
          replace d2 := k3.cell d2 (fun f => f)
          replace d3 := k3.cell d3 (fun f => f)
          replace d4 := k3.cell d4 (fun f => f)
          replace d5 := k3.cell d5 (fun f => f)
          replace d6 := k3.cell d6 (fun f => f)
          have p11 := HP1.out.keep0 k3
          have yc := yc w3 _ p11
          clear ye k3 K10 v1
          go_wp2_with fail
          refine yc.mono ?_
          rintro e w4 ⟨rfl, k4⟩
          have K12 := K11.trans k4
          replace d0 := k4.cell d0 (fun f => f)
          replace d1 := k4.cell d1 (fun f => f)
          replace d2 := k4.cell d2 (fun f => f)
          replace d3 := k4.cell d3 (fun f => f)
          replace d4 := k4.cell d4 (fun f => f)
          replace d5 := k4.cell d5 (fun f => f)
          replace d6 := k4.cell d6 (fun f => f)
          have p12 := p11.keep0 k4
          have yd := HYD.out w4 HF.out
          clear yc k4 K11 p11
          go_wp2_with fail
          refine yd.mono ?_
          rintro e w5 ⟨uo, uc, ro, rc, rfl, h5, k5⟩
          have kE : Keep0 w5 (w5.alloc (.cells #[.slice uo 0 uc, .bool false, .string ⟨#[]⟩, .int .u64 0, .slice ro 1 rc, .bool false, .string TB] 30)) := (Keep.refl _ w5).alloc _
          have kk := k5.trans kE
          have K13 := K12.trans kk
          replace d0 := kk.cell d0 (fun f => f)
          replace d1 := kk.cell d1 (fun f => f)
          replace d2 := kk.cell d2 (fun f => f)
          replace d3 := kk.cell d3 (fun f => f)
          replace d4 := kk.cell d4 (fun f => f)
          replace d5 := kk.cell d5 (fun f => f)
          replace d6 := kk.cell d6 (fun f => f)
          have p13 := p12.keep0 kk
          have h13 := h5.keep0 kE
          obtain ⟨y0, y1, y2, y3, y4, y5, y6, _, _, _, _, _, _, _⟩ := (SAt.new w5 30 (.slice uo 0 uc) (.bool false) (.string ⟨#[]⟩) (.int .u64 0) (.slice ro 1 rc) (.bool false) (.string TB)).cells
          have ys := HYS.out _ _ uo uc ro rc p13 h13
          clear yd k5 kE kk K12 p12 h5
          go_wp2_with fail
          generalize w5.alloc (.cells #[.slice uo 0 uc, .bool false, .string ⟨#[]⟩, .int .u64 0, .slice ro 1 rc, .bool false, .string TB] 30) = w6 at *
          generalize w5.heap.size = gY at *
          refine ys.mono ?_
          rintro e w7 ⟨rfl, k7⟩
          have K14 := K13.trans k7
          clear ys k7 K13
          go_wp2
          go_ret
          exact ⟨by simp, K14⟩
        · have hEN : EN = (⟨#[]⟩, 3) := by rw [hen, if_neg (by omega)]
          have t5 : decide ((65536 : Int) < 8 + (a : Int) + 1 + 3 + (b : Int)) = true := decide_eq_true (by omega)
          have t6 : (65536 : Int) < 8 + (a : Int) + 1 + 3 + (b : Int) := by omega
          rw [hEN] at ye
          clear hen hsz hEN
          go_wp2_with fail
          refine ye.mono ?_
          rintro e w3 ⟨rfl, k3⟩
          have K11 := K10.trans k3
          replace d0 := k3.cell d0 (fun f => f)
          replace d1 := k3.cell d1 (fun f => f)
          replace d2 := k3.cell d2 (fun f => f)
          replace d3 := k3.cell d3 (fun f => f)
          replace d4 := k3.cell d4 (fun f => f)
          replace d5 := k3.cell d5 (fun f => f)
          replace d6 := k3.cell d6 (fun f => f)
          have p11 := HP1.out.keep0 k3
          have yc := yc w3 _ p11
          clear ye k3 K10 v1
          go_wp2_with fail
          refine yc.mono ?_
          rintro e w4 ⟨rfl, k4⟩
          have K12 := K11.trans k4
          clear yc k4 K11 p11
          go_wp2
          go_ret
          exact ⟨by simp, K12⟩
      · clear kA sA pA
        generalize ((wr.alloc (.cells #[.slice none 0 0, .bool false, .string ⟨#[]⟩, .int .u64 0, .slice (some ⟨wr.heap.size + 1, 0, none⟩) 1 1, .bool false, .string TB] 30)).alloc (.cells #[.string ⟨#[110]⟩, .string TA] 43)).drew = W at *
        generalize hgs : wr.heap.size + 1 = gP at *
        generalize wr.heap.size = gS at *
        have K9 := kB
        have s9 := sB
        have p9 := pB
        clear kB sB pB hgs hkp hrow hcv
        have HP : Hid (PrsAt W (some ⟨gP, 0, none⟩) [⟨⟨#[110]⟩, TA⟩]) := p9
        obtain ⟨d0, d1, d2, d3, d4, d5, d6, f0, f1, f2, f3, f4, f5, f6⟩ := s9.cells
        obtain ⟨pb, po, pe, v0, v1⟩ := p9 0 (by show 0 < 1; decide)
        cases pe
        have v1 : W.cell? ⟨gP, 1, none⟩ = some (.string TA) := v1
        clear p9 v0 f0 f1 f2 f3 f4 f5 f6
        have q1 : IntKind.i64.wrap (8 + (a : Int)) = 8 + (a : Int) := by rw [IntKind.wrap_i64]; omega
        have q2 : IntKind.i64.wrap (8 + (a : Int) + 1) = 8 + (a : Int) + 1 := by rw [IntKind.wrap_i64]; omega
        have q3 : IntKind.i64.wrap (8 + (a : Int) + 1 + 3) = 8 + (a : Int) + 1 + 3 := by rw [IntKind.wrap_i64]; omega
        have q4 : IntKind.i64.wrap (8 + (a : Int) + 1 + 3 + (b : Int)) = 8 + (a : Int) + 1 + 3 + (b : Int) := by rw [IntKind.wrap_i64]; omega
        have i9 : (a : Int) ≤ 9223372036854775807 := by omega
        have i10 : (b : Int) ≤ 9223372036854775807 := by omega
        go_wp2_with fail
        go_quiet (fail)
        have K10 : Keep0 w (W.drewN nq) := K9.drewN nq
        have kq : Keep0 W (W.drewN nq) := (Keep.refl _ W).drewN nq
        replace d0 := kq.cell d0 (fun f => f)
        replace d1 := kq.cell d1 (fun f => f)
        replace d2 := kq.cell d2 (fun f => f)
        replace d3 := kq.cell d3 (fun f => f)
        replace d4 := kq.cell d4 (fun f => f)
        replace d5 := kq.cell d5 (fun f => f)
        replace d6 := kq.cell d6 (fun f => f)
        replace v1 := kq.cell v1 (fun f => f)
        have HP1 : Hid (PrsAt (W.drewN nq) (some ⟨gP, 0, none⟩) [⟨⟨#[110]⟩, TA⟩]) := HP.out.keep0 kq
        have s10 := s9.keep0 kq
        clear K9 kq HP s9
        generalize W.drewN nq = W2 at *
        clear nq
        have t1 : decide ((a : Int) < 16384) = false := decide_eq_false (by omega)
        have t2 : decide ((b : Int) < 16384) = false := decide_eq_false (by omega)
        have t3 : ¬ (a : Int) < 16384 := by omega
        have t4 : ¬ (b : Int) < 16384 := by omega
        have ye := HYE.out W2 _ HP1.out
        have yc := HYC.out
        have hFs : (F.size : Int) = 8 + (a : Int) + 1 + 3 + (b : Int) := by omega
        have hFm : 8 + (a : Int) + 1 + 3 + (b : Int) ≤ 9223372036854775807 := by omega
        by_cases hN : 12 + a + b ≤ 65536
        · have hEN : EN = (F, 0) := by rw [hen, if_pos (by omega)]
          have t5 : decide ((65536 : Int) < 8 + (a : Int) + 1 + 3 + (b : Int)) = false := decide_eq_false (by omega)
          have t6 : ¬ (65536 : Int) < 8 + (a : Int) + 1 + 3 + (b : Int) := by omega
          rw [hEN] at ye
          have HF : Hid (F.size ≤ 65536) := by show _ ≤ _; omega
          clear hen hsz hEN
          go_wp2_with fail
          refine ye.mono ?_
          rintro e w3 ⟨rfl, k3⟩
          have K11 := K10.trans k3
          replace d0 := k3.cell d0 (fun f => f)
          replace d1 := k3.cell d1 (fun f => f)
          replace d2 := k3.cell d2 (fun f => f)
          replace d3 := k3.cell d3 (fun f => f)
          replace d4 := k3.cell d4 (fun f => f)
          replace d5 := k3.cell d5 (fun f => f)
          replace d6 := k3.cell d6 (fun f => f)
          have p11 := HP1.out.keep0 k3
          have yc := yc w3 _ p11
          clear ye k3 K10 v1
          go_wp2_with fail
          refine yc.mono ?_
          rintro e w4 ⟨rfl, k4⟩
          have K12 := K11.trans k4
          replace d0 := k4.cell d0 (fun f => f)
          replace d1 := k4.cell d1 (fun f => f)
          replace d2 := k4.cell d2 (fun f => f)
          replace d3 := k4.cell d3 (fun f => f)
          replace d4 := k4.cell d4 (fun f => f)
          replace d5 := k4.cell d5 (fun f => f)
          replace d6 := k4.cell d6 (fun f => f)
          have p12 := p11.keep0 k4
          have yd := HYD.out w4 HF.out
          clear yc k4 K11 p11
          go_wp2_with fail
          refine yd.mono ?_
          rintro e w5 ⟨uo, uc, ro, rc, rfl, h5, k5⟩
          have kE : Keep0 w5 (w5.alloc (.cells #[.slice uo 0 uc, .bool false, .string ⟨#[]⟩, .int .u64 0, .slice ro 1 rc, .bool false, .string TB] 30)) := (Keep.refl _ w5).alloc _
          have kk := k5.trans kE
          have K13 := K12.trans kk
          replace d0 := kk.cell d0 (fun f => f)
          replace d1 := kk.cell d1 (fun f => f)
          replace d2 := kk.cell d2 (fun f => f)
          replace d3 := kk.cell d3 (fun f => f)
          replace d4 := kk.cell d4 (fun f => f)
          replace d5 := kk.cell d5 (fun f => f)
          replace d6 := kk.cell d6 (fun f => f)
          have p13 := p12.keep0 kk
          have h13 := h5.keep0 kE
          obtain ⟨y0, y1, y2, y3, y4, y5, y6, _, _, _, _, _, _, _⟩ := (SAt.new w5 30 (.slice uo 0 uc) (.bool false) (.string ⟨#[]⟩) (.int .u64 0) (.slice ro 1 rc) (.bool false) (.string TB)).cells
          have ys := HYS.out _ _ uo uc ro rc p13 h13
          clear yd k5 kE kk K12 p12 h5
          go_wp2_with fail
          generalize w5.alloc (.cells #[.slice uo 0 uc, .bool false, .string ⟨#[]⟩, .int .u64 0, .slice ro 1 rc, .bool false, .string TB] 30) = w6 at *
          generalize w5.heap.size = gY at *
          refine ys.mono ?_
          rintro e w7 ⟨rfl, k7⟩
          have K14 := K13.trans k7
          clear ys k7 K13
          go_wp2
          go_ret
          exact ⟨by simp, K14⟩
        · have hEN : EN = (⟨#[]⟩, 3) := by rw [hen, if_neg (by omega)]
          have t5 : decide ((65536 : Int) < 8 + (a : Int) + 1 + 3 + (b : Int)) = true := decide_eq_true (by omega)
          have t6 : (65536 : Int) < 8 + (a : Int) + 1 + 3 + (b : Int) := by omega
          rw [hEN] at ye
          clear hen hsz hEN
          go_wp2_with fail
          refine ye.mono ?_
          rintro e w3 ⟨rfl, k3⟩
          have K11 := K10.trans k3
          replace d0 := k3.cell d0 (fun f => f)
          replace d1 := k3.cell d1 (fun f => f)
          replace d2 := k3.cell d2 (fun f => f)
          replace d3 := k3.cell d3 (fun f => f)
          replace d4 := k3.cell d4 (fun f => f)
          replace d5 := k3.cell d5 (fun f => f)
          replace d6 := k3.cell d6 (fun f => f)
          have p11 := HP1.out.keep0 k3
          have yc := yc w3 _ p11
          clear ye k3 K10 v1
          go_wp2_with fail
          refine yc.mono ?_
          rintro e w4 ⟨rfl, k4⟩
          have K12 := K11.trans k4
          clear yc k4 K11 p11
          go_wp2
          go_ret
          exact ⟨by simp, K12⟩
theorem siblingGreat_law (V : SibCode) (w : World) (b : Int) (wb : (Lit.int .u8 b).wf = true) (less : Int) (wl : (Lit.int .u8 less).wf = true) (more : Int) (wm : (Lit.int .u8 more).wf = true) :
    Calls Try.prog 6 #[.int .u8 b, .int .u8 less, .int .u8 more] w fun e w' => e = .returned (.bool true) ∧ Keep0 w w' := by
  obtain ⟨c, rfl⟩ : ∃ c : UInt8, b = (c.toNat : Int) := by
    have hb := bounds_u8 wb
    refine ⟨UInt8.ofNat b.toNat, ?_⟩
    rw [byte_nat (by omega)]
    omega
  have hl := bounds_u8 wl
  have hm := bounds_u8 wm
  exact siblingGreat_go V w c less more hl.1 hl.2 hm.1 hm.2 (32768 - less).toNat (32768 - more).toNat (by omega) (by omega)
end Go.Proofs.Ytfpahdnhnhkcdaa
