/-
  Contracts of package frame's body and Encode, each proved over this seat's translation.
  Conditions: a text takes at most the greatest length that a string may have.
-/
import Derived.Test.YtaleennijfefnaaGreatFrameA
import Derived.Test.YtaleennijfefnaaGreatRefFrame2
import Derived.Test.YtaleennijfefnaaGreatBlobPut
namespace Go.Proofs.YtaleennijfefnaaGreat
open Go.RowKit

theorem vText3 {n : Nat} (h : n ≤ 65536) : (vText n).size ≤ 3 := by
  have := vEnc_len_lt 2 n (by omega)
  unfold vText
  simpa [ByteArray.size] using this
/-- What the pen of a frame's body has at the end. -/
def bodyEnd (x : Int) (v k : UInt8) (p : ByteArray) : ByteArray × Int := wPuts 65547 65536 (pAll 65547 (⟨#[]⟩, x) [one v, one k]) [p]
theorem bodyEnd_ver (v k : UInt8) (p : ByteArray) : bodyEnd 10 v k p = (⟨#[]⟩, 10) := by
  unfold bodyEnd
  rw [pAll_err (by decide), wPuts_err (by decide)]
theorem body_two (v k : UInt8) : pAll 65547 (⟨#[]⟩, 0) [one v, one k] = (one v ++ one k, 0) := by
  unfold pAll
  rw [List.foldl_cons, List.foldl_cons, List.foldl_nil]
  have e0 : (⟨#[]⟩ : ByteArray).size = 0 := rfl
  have e1 : (⟨#[]⟩ : ByteArray) ++ one v = one v := rfl
  rw [pOne_yes (by rw [one_size, e0]; omega), e1, pOne_yes (by rw [one_size, one_size]; omega)]
theorem bodyEnd_long (v k : UInt8) {p : ByteArray} (h : 65536 < p.size) : bodyEnd 0 v k p = (one v ++ one k, 3) := by
  unfold bodyEnd
  rw [body_two]
  show wPut 65547 65536 _ p = _
  rw [wPut_long (by show ¬ (p.size : Int) ≤ 65536; omega)]
  rfl
theorem bodyEnd_ok (v k : UInt8) {p : ByteArray} (h : ¬ 65536 < p.size) : bodyEnd 0 v k p = (fBody v k p, 0) := by
  have h3 := vText3 (n := p.size) (by omega)
  unfold bodyEnd
  rw [body_two]
  show wPut 65547 65536 _ p = _
  rw [wPut_fit (by show (p.size : Int) ≤ 65536; omega), pOne_yes (by rw [ByteArray.size_append, one_size, one_size]; omega), pOne_yes (by rw [ByteArray.size_append, ByteArray.size_append, one_size, one_size]; omega)]
  unfold fBody
  simp only [ByteArray.append_assoc]
/-- Two bytes, whose list has just been made. -/
theorem byte_two {w : World} {b r : Nat} {t : ByteArray} {M x : Int} (h : Pen w b r t M x) (c d : UInt8) (hfit : (t.size : Int) + 2 ≤ 140737488355328 ∨ M ≤ 140737488355328) (ty : TypeId) :
    Calls Tryz.prog 61 #[pptr b, .slice (some ⟨w.heap.size, 0, none⟩) 2 2] (w.alloc (.cells #[.int .u8 (c.toNat : Int), .int .u8 (d.toNat : Int)] ty)) fun e w' => e = .returned (.tuple #[]) ∧ PenAfter w w' b r M (pAll M (t, x) [one c, one d]) := by
  have k0 : Keep0 w (w.alloc (.cells #[.int .u8 (c.toNat : Int), .int .u8 (d.toNat : Int)] ty)) := (Keep.refl _ w).alloc _
  have l1 := h.lt
  have l2 := h.rlt
  refine (pbyte_any (h.keep0 k0) (some ⟨w.heap.size, 0, none⟩) 2 [c, d] ?_ (by simp) (by simpa using hfit)).mono ?_
  · intro k hk
    have hk : k < 2 := by simpa using hk
    refine ⟨w.heap.size, 0, rfl, ?_, by omega, by omega⟩
    match k, hk with
    | 0, _ => exact cell_alloc w ty rfl
    | 1, _ => exact cell_alloc w ty rfl
  · rintro e w' ⟨rfl, h1⟩
    exact ⟨rfl, PenAfter.trans k0.any (.inl rfl) h1⟩
/-- Three texts, whose list has just been made. -/
theorem text_three {w : World} {b r : Nat} {t : ByteArray} {M x : Int} (h : Pen w b r t M x) (s0 s1 s2 : ByteArray) (hM : M ≤ 140737488355328) (ty : TypeId) :
    Calls Tryz.prog 42 #[pptr b, .slice (some ⟨w.heap.size, 0, none⟩) 3 3] (w.alloc (.cells #[.string s0, .string s1, .string s2] ty)) fun e w' => e = .returned (.tuple #[]) ∧ PenAfter w w' b r M (pAll M (t, x) [s0, s1, s2]) := by
  have k0 : Keep0 w (w.alloc (.cells #[.string s0, .string s1, .string s2] ty)) := (Keep.refl _ w).alloc _
  have l1 := h.lt
  have l2 := h.rlt
  refine (ptext_any (h.keep0 k0) (some ⟨w.heap.size, 0, none⟩) 3 [s0, s1, s2] ?_ (by simp) (.inr hM)).mono ?_
  · intro k hk
    have hk : k < 3 := by simpa using hk
    refine ⟨w.heap.size, 0, rfl, ?_, by omega, by omega⟩
    match k, hk with
    | 0, _ => exact cell_alloc w ty rfl
    | 1, _ => exact cell_alloc w ty rfl
    | 2, _ => exact cell_alloc w ty rfl
  · rintro e w' ⟨rfl, h1⟩
    exact ⟨rfl, PenAfter.trans k0.any (.inl rfl) h1⟩
/-- One blob, whose list has just been made. -/
theorem bput7_one {w : World} {b r : Nat} {t : ByteArray} {M x : Int} (h : Pen w b r t M x) (m : Int) (hm : m ≤ 9223372036854775807) (s : ByteArray) (hs : s.size ≤ maxLen) (hM : M ≤ 140737488355000) (ty : TypeId) :
    Calls Tryz.prog 62 #[pptr b, .int .i64 m, .slice (some ⟨w.heap.size, 0, none⟩) 1 1] (w.alloc (.cells #[.string s] ty)) fun e w' => e = .returned (.tuple #[]) ∧ PenAfter w w' b r M (wPuts M m (t, x) [s]) := by
  have k0 : Keep0 w (w.alloc (.cells #[.string s] ty)) := (Keep.refl _ w).alloc _
  have l1 := h.lt
  have l2 := h.rlt
  refine (bput_any (h.keep0 k0) m hm (some ⟨w.heap.size, 0, none⟩) 1 [s] (by unfold maxLen; simp) (by simpa using hs) ?_ (.inr hM)).mono ?_
  · intro k hk
    obtain rfl : k = 0 := by simpa using hk
    exact ⟨w.heap.size, 0, rfl, cell_alloc w ty rfl, by omega, by omega⟩
  · rintro e w' ⟨rfl, h1⟩
    exact ⟨rfl, PenAfter.trans k0.any (.inl rfl) h1⟩

set_option maxRecDepth 100000 in
set_option maxHeartbeats 4000000 in
/-- What body answers, of a version that is one, and of one that isn't (x: the error that the version leaves). -/
theorem body7_at (w : World) (v k : UInt8) (p : ByteArray) (hp : p.size ≤ maxLen) (x : Int) (T : ByteArray) (N : Int) (hT : bodyEnd x v k p = (T, N)) (hx : (qV (v.toNat : Int) = true ∧ x = 0) ∨ (qV (v.toNat : Int) = false ∧ x = 10)) :
    Calls Tryz.prog 37 #[fr (v.toNat : Int) (k.toNat : Int) p] w fun e w' => e = .returned (.tuple #[.string (pEnd T N), .int .i64 N]) ∧ Keep0 w w' := by
  have f0 := FrAt.new w (v.toNat : Int) (k.toNat : Int) p 31
  have k0 : Keep0 w (w.alloc (.cells #[.int .u8 (v.toNat : Int), .int .u8 (k.toNat : Int), .string p] 31)) := (Keep.refl _ w).alloc _
  have hM : pMax 65547 = 65547 := rfl
  have HB : Hid (wPuts 65547 65536 ((pAll 65547 (⟨#[]⟩, x) [one v, one k]).1, (pAll 65547 (⟨#[]⟩, x) [one v, one k]).2) [p] = (T, N)) := hT
  clear hT
  have hnew := fun W => pnew_any W 65547 (by decide)
  rw [hM] at hnew
  have hver := fun W => isver_any W (v.toNat : Int)
  unfold fr
  go_enter Tryz.func37, Tryz.ntmps37
  go_wp2_with fail
  generalize hg : w.heap.size = g at *
  generalize w.alloc (.cells #[.int .u8 (v.toNat : Int), .int .u8 (k.toNat : Int), .string p] 31) = W0 at *
  refine (sends_any _).mono ?_
  rintro e w' ⟨rfl, rfl⟩
  go_wp2_with fail
  refine (hnew _).mono ?_
  rintro e w1 ⟨rfl, h1, k1⟩
  have f1 := f0.keep0 k1
  have l0 := f0.lt
  have K1 := k0.step0 k1
  obtain ⟨d0, d1, d2, d3, d4, d5⟩ := f1.cells
  clear k0 k1 hnew f0 hM d3 d4 d5
  generalize W0.heap.size = b at *
  rcases hx with ⟨hv, rfl⟩ | ⟨hv, rfl⟩
  · rw [hv] at hver
    go_wp2_with fail
    refine (hver _).mono ?_
    rintro e w' ⟨rfl, rfl⟩
    clear hver hv d0 d1 d2
    have h2 := h1
    have f2 := f1
    have K2 := K1
    clear h1 f1 K1
    obtain ⟨i0, i1, i2, i3, i4, i5⟩ := f2.cells
    clear i3 i4 i5
    have s2 := K2.size
    have hby := byte_two h2 v k (.inr (by decide)) 5
    generalize hP : pAll 65547 (⟨#[]⟩, 0) [one v, one k] = P at *
    clear hP
    go_wp2_with fail
    refine hby.mono ?_
    rintro e w3 ⟨rfl, r3, h3, k3, hr3⟩
    clear hby
    have K3 := K2.step k3 (fun i hi hh => by simp only [two] at hh; omega)
    have f3 := f2.keep k3 (by simp only [two]; omega)
    have s3 := k3.size
    have hr3' : w.heap.size ≤ r3 := by omega
    clear i0 i1 i2 h2 K2 k3 f2 hr3 s3
    obtain ⟨i0, i1, i2, i3, i4, i5⟩ := f3.cells
    clear i3 i4 i5
    have hbp := bput7_one h3 65536 (by decide) p hp (by decide) 9
    go_wp2_with fail
    refine hbp.mono ?_
    rintro e w4 ⟨rfl, r4, h4, k4, hr4⟩
    clear hbp
    rw [HB.out] at h4
    have K4 := K3.step k4 (fun i hi hh => by simp only [two] at hh; omega)
    clear i0 i1 i2 h3 K3 k4 f3 hr4
    have hen := pend_any h4
    go_wp2_with fail
    refine hen.mono ?_
    rintro e w' ⟨rfl, rfl⟩
    clear hen h4 HB
    go_wp2
    go_ret2
    exact ⟨rfl, K4⟩
  · rw [hv] at hver
    go_wp2_with fail
    refine (hver _).mono ?_
    rintro e w' ⟨rfl, rfl⟩
    clear hver hv d0 d1 d2
    go_wp2_with fail
    refine (pfail_yes 10 h1).mono ?_
    rintro e w2 ⟨rfl, h2, k2⟩
    have f2 := f1.keep k2 (by omega)
    have K2 := K1.step1 k2 (by omega)
    clear h1 f1 K1 k2
    obtain ⟨i0, i1, i2, i3, i4, i5⟩ := f2.cells
    clear i3 i4 i5
    have s2 := K2.size
    have hby := byte_two h2 v k (.inr (by decide)) 5
    generalize hP : pAll 65547 (⟨#[]⟩, 10) [one v, one k] = P at *
    clear hP
    go_wp2_with fail
    refine hby.mono ?_
    rintro e w3 ⟨rfl, r3, h3, k3, hr3⟩
    clear hby
    have K3 := K2.step k3 (fun i hi hh => by simp only [two] at hh; omega)
    have f3 := f2.keep k3 (by simp only [two]; omega)
    have s3 := k3.size
    have hr3' : w.heap.size ≤ r3 := by omega
    clear i0 i1 i2 h2 K2 k3 f2 hr3 s3
    obtain ⟨i0, i1, i2, i3, i4, i5⟩ := f3.cells
    clear i3 i4 i5
    have hbp := bput7_one h3 65536 (by decide) p hp (by decide) 9
    go_wp2_with fail
    refine hbp.mono ?_
    rintro e w4 ⟨rfl, r4, h4, k4, hr4⟩
    clear hbp
    rw [HB.out] at h4
    have K4 := K3.step k4 (fun i hi hh => by simp only [two] at hh; omega)
    clear i0 i1 i2 h3 K3 k4 f3 hr4
    have hen := pend_any h4
    go_wp2_with fail
    refine hen.mono ?_
    rintro e w' ⟨rfl, rfl⟩
    clear hen h4 HB
    go_wp2
    go_ret2
    exact ⟨rfl, K4⟩
theorem body7_ver (w : World) (v k : UInt8) (p : ByteArray) (hp : p.size ≤ maxLen) (h : qV (v.toNat : Int) = false) :
    Calls Tryz.prog 37 #[fr (v.toNat : Int) (k.toNat : Int) p] w fun e w' => e = .returned (.tuple #[.string ⟨#[]⟩, .int .i64 10]) ∧ Keep0 w w' :=
  body7_at w v k p hp 10 _ _ (bodyEnd_ver v k p) (.inr ⟨h, rfl⟩)
theorem body7_long (w : World) (v k : UInt8) (p : ByteArray) (hp : p.size ≤ maxLen) (h : qV (v.toNat : Int) = true) (h1 : 65536 < p.size) :
    Calls Tryz.prog 37 #[fr (v.toNat : Int) (k.toNat : Int) p] w fun e w' => e = .returned (.tuple #[.string ⟨#[]⟩, .int .i64 3]) ∧ Keep0 w w' :=
  body7_at w v k p hp 0 _ _ (bodyEnd_long v k h1) (.inl ⟨h, rfl⟩)
theorem body7_ok (w : World) (v k : UInt8) (p : ByteArray) (hp : p.size ≤ maxLen) (h : qV (v.toNat : Int) = true) (h1 : ¬ 65536 < p.size) :
    Calls Tryz.prog 37 #[fr (v.toNat : Int) (k.toNat : Int) p] w fun e w' => e = .returned (.tuple #[.string (fBody v k p), .int .i64 0]) ∧ Keep0 w w' :=
  body7_at w v k p hp 0 _ _ (bodyEnd_ok v k h1) (.inl ⟨h, rfl⟩)

/-- The three texts of which a frame's bytes are. -/
theorem three_end (v k : UInt8) {p : ByteArray} (h : ¬ 65536 < p.size) :
    pAll 65547 (⟨#[]⟩, 0) [⟨#[215, 78]⟩, fBody v k p, bText 4 (cSum (fBody v k p).data.toList)] = (fEnc v k p, 0) := by
  have h3 := vText3 (n := p.size) (by omega)
  have hb := fBody_size v k p
  have e0 : (⟨#[]⟩ : ByteArray).size = 0 := rfl
  have e1 : (⟨#[]⟩ : ByteArray) ++ ⟨#[215, 78]⟩ = one 215 ++ one 78 := rfl
  have e2 : (⟨#[215, 78]⟩ : ByteArray).size = 2 := rfl
  unfold pAll
  rw [List.foldl_cons, List.foldl_cons, List.foldl_cons, List.foldl_nil]
  rw [pOne_yes (by rw [e0, e2]; omega), e1, pOne_yes (by rw [ByteArray.size_append, one_size, one_size]; omega), pOne_yes (by rw [ByteArray.size_append, ByteArray.size_append, one_size, one_size, bText_size]; omega)]
  unfold fEnc
  simp only [ByteArray.append_assoc]
set_option maxRecDepth 100000 in
set_option maxHeartbeats 4000000 in
theorem encode7_bad {w : World} {kb : Option Nat} (h : CoderAt w kb) (v k : UInt8) (p : ByteArray) (E : Int) (hE : E ≠ 0)
    (hb : ∀ W, Calls Tryz.prog 37 #[fr (v.toNat : Int) (k.toNat : Int) p] W fun e w' => e = .returned (.tuple #[.string ⟨#[]⟩, .int .i64 E]) ∧ Keep0 W w') :
    Calls Tryz.prog 23 #[kptr kb, fr (v.toNat : Int) (k.toNat : Int) p] w fun e w' => e = .returned (.tuple #[.string ⟨#[]⟩, .int .i64 E]) ∧ CoderAt w' kb ∧ KeepK kb w w' := by
  have f0 := FrAt.new w (v.toNat : Int) (k.toNat : Int) p 31
  have k0 : Keep0 w (w.alloc (.cells #[.int .u8 (v.toNat : Int), .int .u8 (k.toNat : Int), .string p] 31)) := (Keep.refl _ w).alloc _
  have e1 : (E != 0) = true := by simpa using hE
  obtain ⟨d0, d1, d2, d3, d4, d5⟩ := f0.cells
  unfold fr at *
  generalize kptr kb = KV at *
  go_enter Tryz.func23, Tryz.ntmps23
  go_wp2_with fail
  refine (hb _).mono ?_
  rintro e w1 ⟨rfl, k1⟩
  have K1 := k0.trans k1
  clear k1 k0 f0 hb d0 d1 d2 d3 d4 d5
  go_wp2
  go_ret2
  exact ⟨rfl, h.keep0 K1, K1.any⟩
set_option maxRecDepth 100000 in
set_option maxHeartbeats 4000000 in
theorem encode7_ok {w : World} {kb : Option Nat} (h : CoderAt w kb) (v k : UInt8) (p : ByteArray) (hp : p.size ≤ maxLen) (hv : qV (v.toNat : Int) = true) (h1 : ¬ 65536 < p.size) :
    Calls Tryz.prog 23 #[kptr kb, fr (v.toNat : Int) (k.toNat : Int) p] w fun e w' => e = .returned (.tuple #[.string (fEnc v k p), .int .i64 0]) ∧ CoderAt w' kb ∧ KeepK kb w w' := by
  have f0 := FrAt.new w (v.toNat : Int) (k.toNat : Int) p 31
  have k0 : Keep0 w (w.alloc (.cells #[.int .u8 (v.toNat : Int), .int .u8 (k.toNat : Int), .string p] 31)) := (Keep.refl _ w).alloc _
  obtain ⟨d0, d1, d2, d3, d4, d5⟩ := f0.cells
  have hb := fun W => body7_ok W v k p hp hv h1
  have hbs : (fBody v k p).size ≤ maxLen := by
    have := fBody_size v k p
    have := vText3 (n := p.size) (by omega)
    unfold maxLen
    omega
  have hsum := fun W (hc : CoderAt W kb) => sum7_any hc (fBody v k p) hbs
  have hlt : cSum (fBody v k p).data.toList < 4294967296 := cMore_lt 0 _
  have hee : eErr 4 (cSum (fBody v k p).data.toList) = 0 := eErr_ok rfl (by show ¬ (4294967295 : Int) < _; omega)
  have hen := fun W => encode4_any W 4 (cSum (fBody v k p).data.toList)
  rw [eText_yes hee, hee] at hen
  have h4 : ((4 : Int)).toNat = 4 := rfl
  rw [h4] at hen
  have H3 : Hid (pAll 65547 (⟨#[]⟩, 0) [⟨#[215, 78]⟩, fBody v k p, bText 4 (cSum (fBody v k p).data.toList)] = (fEnc v k p, 0)) := three_end v k h1
  have hM : pMax 65547 = 65547 := rfl
  have hnew := fun W => pnew_any W 65547 (by decide)
  rw [hM] at hnew
  generalize cSum (fBody v k p).data.toList = N at *
  generalize fBody v k p = B at *
  generalize fEnc v k p = F at *
  generalize bText 4 N = D at *
  unfold fr at *
  generalize hKV : kptr kb = KV at *
  clear hee h4 hM hv h1 hbs hp
  go_enter Tryz.func23, Tryz.ntmps23
  go_wp2_with fail
  refine (hb _).mono ?_
  rintro e w1 ⟨rfl, k1⟩
  have K1 : KeepK kb w w1 := (k0.trans k1).any
  have c1 := h.keep0 (k0.trans k1)
  clear k1 k0 f0 hb d0 d1 d2 d3 d4 d5
  go_wp2_with fail
  refine (hsum _ c1).mono ?_
  rintro e w2 ⟨rfl, c2, k2⟩
  have K2 := K1.trans k2
  clear k2 K1 c1 hsum
  go_wp2_with fail
  refine (hen _).mono ?_
  rintro e w3 ⟨rfl, k3⟩
  have K3 := K2.step0 k3
  have c3 := c2.keep0 k3
  clear k3 K2 c2 hen
  go_wp2_with fail
  refine (sends_any _).mono ?_
  rintro e w' ⟨rfl, rfl⟩
  go_wp2_with fail
  refine (hnew _).mono ?_
  rintro e w4 ⟨rfl, h4, k4⟩
  have K4 := K3.step0 k4
  have c4 := c3.keep0 k4
  have s3 := K3.size
  have s4 := k4.size
  have n3 := fun g (hg : w3.heap.size ≤ g) => c3.ne hg
  clear k4 K3 c3 hnew
  generalize w3.heap.size = b at *
  have htx := text_three h4 ⟨#[215, 78]⟩ B D (by decide) 9
  go_wp2_with fail
  refine htx.mono ?_
  rintro e w5 ⟨rfl, r5, h5, k5, hr5⟩
  rw [H3.out] at h5
  have c5 := c4.keep k5 (fun g hg hh => by
    simp only [two] at hh
    have : g = b := by omega
    exact n3 g (by omega) hg)
  have K5 := K4.step k5 (fun i hi hh => by simp only [two] at hh; omega)
  clear htx k5 K4 c4 h4
  have hen := pend_any h5
  have hE : pEnd F 0 = F := rfl
  rw [hE] at hen
  clear hE
  go_wp2_with fail
  refine hen.mono ?_
  rintro e w' ⟨rfl, rfl⟩
  go_wp2
  go_ret2
  exact ⟨rfl, c5, K5⟩
theorem encode7_any {w : World} {kb : Option Nat} (h : CoderAt w kb) (v k : UInt8) (p : ByteArray) (hp : p.size ≤ maxLen) :
    Calls Tryz.prog 23 #[kptr kb, fr (v.toNat : Int) (k.toNat : Int) p] w fun e w' => e = .returned (.tuple #[.string (eTxt7 v k p), .int .i64 (eErr7 v p)]) ∧ CoderAt w' kb ∧ KeepK kb w w' := by
  cases hv : qV (v.toNat : Int) with
  | false =>
    rw [(e7_ver k p hv).1, (e7_ver k p hv).2]
    exact encode7_bad h v k p 10 (by decide) (fun W => body7_ver W v k p hp hv)
  | true =>
    by_cases h1 : 65536 < p.size
    · rw [(e7_long k hv h1).1, (e7_long k hv h1).2]
      exact encode7_bad h v k p 3 (by decide) (fun W => body7_long W v k p hp hv h1)
    · rw [(e7_ok k hv h1).1, (e7_ok k hv h1).2]
      exact encode7_ok h v k p hp hv h1
end Go.Proofs.YtaleennijfefnaaGreat
