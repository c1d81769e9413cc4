/-
  Contracts of writing a number (layer 3): the code's Encode and the document's own, each proved over this seat's translation.
  Conditions: the number takes 64 bits.
-/
import Derived.Test.YtaleennijfefnaaGreatPenWrite
import Derived.Test.YtaleennijfefnaaGreatVar
import Derived.Deep.RegionWith
namespace Go.Proofs.YtaleennijfefnaaGreat
open Go.RowKit
open Go.Lib (strCells strCells_length strCells_oneCell)

theorem ownsRow_weak {w : World} {base : Nat} {e : TypeId} {v : Value} {n : Nat} {xs : List Value} (h : w.ownsRow base e 1 v n xs) : w.ownsRow 0 e 1 v n xs := by
  refine ⟨h.1, ?_⟩
  rcases h.2 with hn | ⟨g, cap, cur, h1, h2, h3⟩
  · exact .inl hn
  · exact .inr ⟨g, cap, cur, h1, Nat.zero_le _, h3⟩
theorem Keep.row {w w1 w2 : World} {e : TypeId} {v : Value} {n : Nat} {xs : List Value} (hk : Keep0 w w1) (ho : w1.ownsRow w.heap.size e 1 v n xs) (hg : w1.grownBy w2 v.ownBlock) : Keep0 w w2 := by
  have h2 : Keep (fun k => some k = v.ownBlock) w1 w2 := Keep.ofGrown hg (fun k hk => hk.symm)
  refine hk.step h2 (fun i hi hh => ?_)
  have := (ho.lt i hh.symm).1
  omega

set_option maxRecDepth 100000 in
set_option maxHeartbeats 2000000 in
theorem encode_any (w : World) (n : Nat) (hn : n < 18446744073709551616) :
    Calls Tryz.prog 91 #[.int .u64 n] w fun e w' => e = .returned (.string (vText n)) ∧ Keep0 w w' := by
  obtain ⟨i0, hi, hz0, hz1, hz2⟩ := info_parts infoU8
  have hle := vText_le hn
  rw [vText_size] at hle
  go_enter Tryz.func91, Tryz.ntmps91
  go_wp2_with fail
  go_loopw [0, 3] (fun v l wr => ∃ (N : Nat) (t : ByteArray) (ao : Option Addr) (cap : Nat), v = .int .u64 N ∧ N < 18446744073709551616 ∧ l = .slice ao t.size cap ∧ wr.ownsRow w.heap.size 5 1 (.slice ao t.size cap) t.size (strCells t) ∧ Keep0 w wr ∧
      vEnc n = t.data.toList ++ vEnc N) (fun v _ _ => (intOf v).toNat)
  case atStart => exact ⟨n, ⟨#[]⟩, none, 0, rfl, hn, rfl, World.ownsRow_nil _ _ _ _, Keep.refl _ _, rfl⟩
  case round =>
    obtain ⟨N, t, ao, cap, rfl, hN, rfl, ho, hK, hrel⟩ := hrel
    have hln := congrArg List.length hrel
    rw [List.length_append] at hln
    have hts : t.data.toList.length = t.size := by simp
    have hpos := vEnc_len_pos N
    have htz : t.size ≤ 9 := by omega
    clear hln hts hpos hle
    have hoA := ho.alloc
    by_cases hge : 128 ≤ N
    · rw [vEnc_ge (n := N) (by omega)] at hrel
      have hcn : ((UInt8.ofNat (N % 128 + 128)).toNat : Int) = (N : Int) % 128 + 128 := by rw [byte_nat (by omega)]; omega
      generalize hcc : UInt8.ofNat (N % 128 + 128) = c at *
      have HR : Hid (vEnc n = t.data.toList ++ c :: vEnc (N / 128)) := hrel
      clear hrel hcc
      have HC : Hid ((c.toNat : Int) = (N : Int) % 128 + 128) := hcn
      clear hcn
      go_wp2_with (at_builtin; refine wpList_append_lies _ rfl (.tmp 6) (.tmp 11) 58 rfl w.heap.size 5 i0 (.int .u8 0) 1 1 Tryz.underlying58 hi hz0 hz1 hz2 rfl (by decide) _ _ _ rfl (hoA _) ⟨wr.heap.size, 0, none⟩ 1 1 [.int .u8 ((N : Int) % 128 + 128)] rfl rfl (cell_one_new _ _ _) ?c1 (by decide) ?c2 ?c3 ?c4 _ rfl ?_)
      case c1 => intro u hu; simp at hu; subst hu; rfl
      case c2 => unfold maxLen; omega
      case c3 => omega
      case c4 => have := hK.size; simp; omega
      intro g cap3 w3 ho3 hg3 hat3 hlt3
      have hK3 := (hK.alloc _).row (hoA _) hg3
      have hsz : (t ++ one c).size = t.size + 1 := by rw [ByteArray.size_append, one_size]
      have ho4 : w3.ownsRow w.heap.size 5 1 (.slice (some ⟨g, 0, none⟩) (t ++ one c).size cap3) (t ++ one c).size (strCells (t ++ one c)) := by
        rw [hsz, strCells_append, one_cells, HC.out]
        exact ho3
      rw [hsz] at ho4
      clear ho3 hg3 hat3 hlt3 hoA ho
      go_wp2
      go_roundw
      case rel => exact ⟨N / 128, t ++ one c, some ⟨g, 0, none⟩, cap3, by go_num, by omega, by rw [hsz], by rw [hsz]; exact ho4, hK3, by rw [HR.out, ByteArray.data_append, Array.toList_append, List.append_assoc]; rfl⟩
      case measure => simp [intOf]; omega
    · rw [vEnc_lt (n := N) (by omega)] at hrel
      have hcn : ((UInt8.ofNat N).toNat : Int) = (N : Int) := by rw [byte_nat (by omega)]
      generalize hcc : UInt8.ofNat N = c at *
      have HR : Hid (vEnc n = t.data.toList ++ [c]) := hrel
      clear hrel hcc
      have HC : Hid ((c.toNat : Int) = (N : Int)) := hcn
      clear hcn
      go_wp2_with (at_builtin; refine wpList_append_lies _ rfl (.tmp 15) (.tmp 18) 58 rfl w.heap.size 5 i0 (.int .u8 0) 1 1 Tryz.underlying58 hi hz0 hz1 hz2 rfl (by decide) _ _ _ rfl (hoA _) ⟨wr.heap.size, 0, none⟩ 1 1 [.int .u8 (N : Int)] rfl rfl (cell_one_new _ _ _) ?c1 (by decide) ?c2 ?c3 ?c4 _ rfl ?_)
      case c1 => intro u hu; simp at hu; subst hu; rfl
      case c2 => unfold maxLen; omega
      case c3 => omega
      case c4 => have := hK.size; simp; omega
      intro g cap3 w3 ho3 hg3 hat3 hlt3
      have hK3 := (hK.alloc _).row (hoA _) hg3
      have hsz : (t ++ one c).size = t.size + 1 := by rw [ByteArray.size_append, one_size]
      have ho4 : w3.ownsRow w.heap.size 5 1 (.slice (some ⟨g, 0, none⟩) (t ++ one c).size cap3) (t ++ one c).size (strCells (t ++ one c)) := by
        rw [hsz, strCells_append, one_cells, HC.out]
        exact ho3
      have hcv := run_text (P := Tryz.prog) 58 9 Tryz.underlying58 Tryz.underlying5 Tryz.underlying9 (ownsRow_weak ho4)
      rw [hsz] at hcv
      have htx : t ++ one c = vText n := by
        apply ByteArray.ext
        unfold vText
        rw [HR.out, ByteArray.data_append]
        apply Array.ext'
        simp [one]
      rw [htx] at hcv
      clear ho3 hg3 hat3 hlt3 hoA ho ho4
      go_wp2
      go_ret
      exact ⟨rfl, hK3⟩

/-! ### the document's own -/
theorem run_one {src dst : TypeId} (hs : Tryz.prog.underlying src = some (.slice 5)) (hd : Tryz.prog.underlying dst = some .string) (W : World) (g : Nat) (c : UInt8) (x : Int) (hx : (c.toNat : Int) = x)
    (hc : W.cell? ⟨g, 0, none⟩ = some (.int .u8 x)) : (convert src dst (.slice (some ⟨g, 0, none⟩) 1 1)).run Tryz.prog W = .ok (.string (one c)) W := by
  have h := run_convert_bytes_back (P := Tryz.prog) W src dst 5 ⟨g, 0, none⟩ 1 [c] hs Tryz.underlying5 hd (fun j hj => by
    obtain rfl : j = 0 := by simpa using hj
    subst hx
    exact hc)
  exact h
set_option maxRecDepth 100000 in
theorem rencode_small (w : World) (n : Nat) (hn : n < 128) :
    Calls Tryz.prog 26 #[.int .u64 n] w fun e w' => e = .returned (.string (vText n)) ∧ Keep0 w w' := by
  have htx : vText n = one (UInt8.ofNat n) := by unfold vText; rw [vEnc_lt hn]; rfl
  have hcn : ((UInt8.ofNat n).toNat : Int) = (n : Int) := by rw [byte_nat (by omega)]
  rw [htx]
  generalize UInt8.ofNat n = c at *
  have hcv := run_one (src := 58) (dst := 9) Tryz.underlying58 Tryz.underlying9 (w.alloc (.cells #[.int .u8 (n : Int)] 5)) w.heap.size c n hcn (cell_alloc w _ rfl)
  clear hcn htx
  go_enter Tryz.func26, Tryz.ntmps26
  go_wp2
  go_ret
  exact ⟨rfl, (Keep.refl _ _).alloc _⟩
set_option maxRecDepth 100000 in
set_option maxHeartbeats 2000000 in
theorem rencode_step (w : World) (n : Nat) (hn : n < 18446744073709551616) (hge : 128 ≤ n) (ih : ∀ w : World, Calls Tryz.prog 26 #[.int .u64 (n / 128 : Nat)] w fun e w' => e = .returned (.string (vText (n / 128))) ∧ Keep0 w w') :
    Calls Tryz.prog 26 #[.int .u64 n] w fun e w' => e = .returned (.string (vText n)) ∧ Keep0 w w' := by
  have htx : vText n = one (UInt8.ofNat (n % 128 + 128)) ++ vText (n / 128) := by
    apply ByteArray.ext
    unfold vText
    rw [vEnc_ge (by omega), ByteArray.data_append]
    apply Array.ext'
    simp [one]
  have hcn : ((UInt8.ofNat (n % 128 + 128)).toNat : Int) = IntKind.u8.wrap (IntKind.u64.wrap ((n : Int).tmod 128 + 128)) := by
    rw [byte_nat (by omega), IntKind.wrap_u64, IntKind.wrap_u8, Int.tmod_eq_emod_of_nonneg (by omega)]; omega
  rw [htx]
  generalize UInt8.ofNat (n % 128 + 128) = c at *
  have hdv : ((n / 128 : Nat) : Int) = IntKind.u64.wrap ((n : Int) / 128) := by rw [IntKind.wrap_u64]; omega
  rw [hdv] at ih
  have hcv : ∀ (W : World) (g : Nat), W.cell? ⟨g, 0, none⟩ = some (.int .u8 (IntKind.u8.wrap (IntKind.u64.wrap ((n : Int).tmod 128 + 128)))) → (convert 58 9 (.slice (some ⟨g, 0, none⟩) 1 1)).run Tryz.prog W = .ok (.string (one c)) W :=
    fun W g hc => run_one (src := 58) (dst := 9) Tryz.underlying58 Tryz.underlying9 W g c _ hcn hc
  have hsz : (one c).size + (vText (n / 128)).size ≤ 4611686018427387904 := by
    have := vText_le (n := n / 128) (by omega)
    rw [one_size]; omega
  clear hcn htx hdv
  go_enter Tryz.func26, Tryz.ntmps26
  go_wp2_with fail
  go_region_with (go_at_call 26; refine (ih _).mono ?_; rintro e w1 ⟨rfl, k1⟩; first | (have hc1 : w1.cell? ⟨w.heap.size, 0, none⟩ = some (.int .u8 (IntKind.u8.wrap (IntKind.u64.wrap ((n : Int).tmod 128 + 128)))) := k1.cell (cell_alloc _ _ rfl) (fun f => f)) | skip)
  all_goals go_wp2_with fail
  all_goals go_ret
  all_goals refine ⟨rfl, ?_⟩
  all_goals first | exact (((Keep.refl _ w).alloc _).drew).trans k1 | exact (((Keep.refl _ w).drew).trans k1).alloc _
theorem rencode_any : ∀ (n : Nat) (w : World), n < 18446744073709551616 → Calls Tryz.prog 26 #[.int .u64 n] w fun e w' => e = .returned (.string (vText n)) ∧ Keep0 w w' := by
  intro n
  induction n using Nat.strongRecOn with
  | _ n ih =>
    intro w hn
    by_cases h : n < 128
    · exact rencode_small w n h
    · exact rencode_step w n hn (by omega) (fun w => ih (n / 128) (by omega) w (by omega))
end Go.Proofs.YtaleennijfefnaaGreat
