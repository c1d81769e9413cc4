/-
  Contract of package dotted's Ceiling, proved over this seat's translation.
  Conditions: at most 100 clocks, 10,000 entries a vector; each actor takes at most the greatest length that a text may have.
-/
import Derived.Test.YtkbihpdfafapeaaDtC
import Derived.Test.YtkbihpdfafapeaaRefDot4
namespace Go.Proofs.Ytkbihpdfafapeaa
open Go.RowKit

/-! ### a slice of lists, which the call makes, one append at a time -/
structure Pv where
  v : List En
  o : Option Addr
  c : Nat
def Pv.cell (p : Pv) : Value := .slice p.o p.v.length p.c
def Vecs (w : World) (B : Nat) (v : Value) (L : List (List En)) : Prop := ∃ PL : List Pv, PL.map Pv.v = L ∧ w.ownsRow B 22 1 v L.length (PL.map Pv.cell) ∧ ∀ p ∈ PL, EnsAt w p.o p.v ∧ (p.v ≠ [] → ∀ b off m, p.o = some ⟨b, off, m⟩ → v.ownBlock ≠ some b)
theorem Vecs.new (w : World) (B : Nat) : Vecs w B (.slice none 0 0) [] := ⟨[], rfl, ⟨rfl, .inl ⟨rfl, rfl⟩⟩, (fun p h => by cases h)⟩
theorem Vecs.keep0 {w w' : World} {B : Nat} {v : Value} {L : List (List En)} (h : Vecs w B v L) (K : Keep0 w w') : Vecs w' B v L := by
  obtain ⟨PL, h1, h2, h3⟩ := h
  exact ⟨PL, h1, rowE_keep h2 K (fun _ _ f => f), fun p hp => ⟨(h3 p hp).1.keep0 K, (h3 p hp).2⟩⟩
theorem Vecs.lt {w : World} {B : Nat} {v : Value} {L : List (List En)} (h : Vecs w B v L) : ∀ k, v.ownBlock = some k → B ≤ k ∧ k < w.heap.size := by
  obtain ⟨PL, h1, h2, h3⟩ := h
  exact h2.lt
theorem Vecs.shape {w : World} {B : Nat} {v : Value} {L : List (List En)} (h : Vecs w B v L) : ∃ ao cap, v = .slice ao L.length cap ∧ VecsAt w ao L := by
  obtain ⟨PL, rfl, h2, h3⟩ := h
  rcases h2.2 with ⟨rfl, h0⟩ | ⟨g, cap, cur, rfl, hb, hg, hcap, hrest⟩
  · exact ⟨none, 0, by rw [h0], fun i hi => by omega⟩
  · refine ⟨some ⟨g, 0, none⟩, cap, rfl, fun i hi => ?_⟩
    have hib : i < PL.length := by rw [List.length_map] at hi; exact hi
    have hc := h2.cells (g := g) rfl i PL[i].cell (by rw [List.getElem?_map, List.getElem?_eq_getElem hib]; rfl)
    rw [add_plain] at hc
    have he : (PL.map Pv.v)[i] = PL[i].v := List.getElem_map ..
    refine ⟨g, 0, PL[i].o, PL[i].c, rfl, ?_, ?_⟩
    · rw [he]
      exact hc
    · rw [he]
      exact (h3 _ (List.getElem_mem hib)).1
theorem ens_old {w : World} {ao : Option Addr} {l : List En} (h : EnsAt w ao l) (hne : l ≠ []) : ∀ b off m, ao = some ⟨b, off, m⟩ → b < w.heap.size := by
  intro b off m e
  obtain ⟨b', off', e', h1, _⟩ := h 0 (List.length_pos_iff.2 hne)
  rw [e] at e'
  cases e'
  exact World.block_lt_of_cell? w _ h1
/-- One more. -/
theorem wpList_append_vec {w : World} {ops : Array Oper} {rest : List Oper} {o : Oper} {a : Act} {Q : Exit → Act → World → Prop} (hgd : o.guard = none) (s y : Operand)
    (ho : o.op = .call { callee := .builtin .append, args := #[s, y], argTypes := #[57, 57] }) {B : Nat} {v : Value} {L : List (List En)} {x : List En} {g pc : Nat} {po : Option Addr}
    (hs : a.eval s = v) (hy : a.eval y = .slice (some ⟨g, 0, none⟩) 1 1) (hS : Vecs w B v L) (hc : w.cell? ⟨g, 0, none⟩ = some (.slice po x.length pc)) (hE : EnsAt w po x) (hap : x ≠ [] → ∀ b off m, po = some ⟨b, off, m⟩ → v.ownBlock ≠ some b) (hB : B ≤ w.heap.size) (hlen : L.length ≤ 100000)
    (h : ∀ v' w', Vecs w' B v' (L ++ [x]) → Keep (fun k => v.ownBlock = some k) w w' → wpList Try.prog ops Q rest (a.put o.dst v') w') : wpList Try.prog ops Q (o :: rest) a w := by
  obtain ⟨i0, hi, z0, z1, z2⟩ := info_parts vec_info
  have hlt := hS.lt
  obtain ⟨PL, h1, h2, h3⟩ := hS
  have hcell : ∀ j u, [Value.slice po x.length pc][j]? = some u → w.cell? ((⟨g, 0, none⟩ : Addr).add j) = some u := by
    intro j u hu
    have : j = 0 := by
      have := (List.getElem?_eq_some_iff.1 hu).1
      simpa using this
    subst this
    have hu : u = .slice po x.length pc := by simpa using hu.symm
    rw [hu, add_plain]
    exact hc
  refine wpList_append_own_at (P := Try.prog) w hgd s y 57 ho B 22 i0 _ 1 24 Try.underlying57 hi z0 z1 z2 rfl (by decide) v L.length (PL.map Pv.cell) hs h2 ⟨g, 0, none⟩ 1 1 [.slice po x.length pc] hy rfl hcell (by intro u hu; rw [List.mem_singleton.1 hu]; rfl) (by unfold maxLen; omega) (by omega) hB ?_
  intro v' w' g1 g2 _ g4
  have kr := keep_row g2
  refine h v' w' ⟨PL ++ [⟨x, po, pc⟩], by rw [List.map_append, h1]; rfl, ?_, ?_⟩ kr
  · rw [List.map_append, List.length_append]
    exact g1
  · have all : ∀ p ∈ PL ++ [(⟨x, po, pc⟩ : Pv)], EnsAt w p.o p.v ∧ (p.v ≠ [] → ∀ b off m, p.o = some ⟨b, off, m⟩ → v.ownBlock ≠ some b) := by
      intro p hp
      rcases List.mem_append.1 hp with hp | hp
      · exact h3 p hp
      · rw [List.mem_singleton.1 hp]
        exact ⟨hE, hap⟩
    intro p hp
    obtain ⟨q1, q2⟩ := all p hp
    by_cases hne : p.v = []
    · refine ⟨by rw [hne]; exact ens_nil _ _, fun h => absurd hne h⟩
    · refine ⟨q1.keep kr (fun b off m e f => q2 hne b off m e f), fun _ b off m e f => ?_⟩
      have hb := ens_old q1 hne b off m e
      rcases g4 with g4 | g4
      · rw [g4] at f
        exact q2 hne b off m e f
      · rw [g4] at f
        cases f
        omega

/-! ### what is joined -/
def parts12 (k : Ck) : List (List En) := if k.d = true then [k.c, [k.x]] else [k.c]
def ceils (l : List Ck) : List (List En) := l.flatMap parts12
theorem parts_yes {k : Ck} (h : k.d = true) : parts12 k = [k.c, [k.x]] := if_pos h
theorem parts_no {k : Ck} (h : k.d = false) : parts12 k = [k.c] := if_neg (by rw [h]; decide)
theorem ceils_cons (k : Ck) (l : List Ck) : ceils (k :: l) = parts12 k ++ ceils l := rfl
theorem ceils_take {l : List Ck} {k : Nat} (hk : k < l.length) : ceils (l.take (k + 1)) = ceils (l.take k) ++ parts12 l[k] := by
  unfold ceils
  rw [List.take_succ_eq_append_getElem hk, List.flatMap_append]
  simp
theorem ceils_len : ∀ l : List Ck, (ceils l).length ≤ 2 * l.length
  | [] => Nat.zero_le _
  | k :: l => by
    rw [ceils_cons, List.length_append, List.length_cons]
    have h1 : (parts12 k).length ≤ 2 := by unfold parts12; split <;> simp
    have := ceils_len l
    omega
theorem most_ceils : ∀ {l : List Ck}, (∀ k ∈ l, Right k) → ∀ z, most (ceils l) z = kMost l z
  | [], _, z => rfl
  | k :: l, h, z => by
    have ih := most_ceils (fun y hy => h y (List.mem_cons_of_mem _ hy)) z
    have hr := h k List.mem_cons_self
    rw [ceils_cons, kMost, ← ih]
    cases hd : k.d with
    | false => rw [parts_no hd, ceilV_plain hd]; rfl
    | true =>
      rw [parts_yes hd, ceilV_dot hd, put_count hr.good]
      show max (vCount k.c z) (max (vCount [k.x] z) (most (ceils l) z)) = _
      rw [count_cons, count_nil]
      split <;> omega
theorem ceils_rights {l : List Ck} (h : ∀ k ∈ l, Right k) : rights (ceils l) = true := by
  rw [rights_iff]
  intro v hv
  obtain ⟨k, hk, hv⟩ := List.mem_flatMap.1 hv
  have hr := h k hk
  cases hd : k.d with
  | false =>
    rw [parts_no hd, List.mem_singleton] at hv
    rw [hv]
    exact hr.vec
  | true =>
    rw [parts_yes hd] at hv
    simp at hv
    rcases hv with rfl | rfl
    · exact hr.vec
    · have ho := (hr.dot hd).1
      exact one_check ho.1 ho.2.1 ho.2.2
theorem ceils_join {l : List Ck} (h : kRights l = true) : vJoin (ceils l) = kCeil l := by
  have hr := kRights_iff.1 h
  have h1 := ceils_rights hr
  have h2 : vPuts [] (l.flatMap ceilV) = vAll [] (ceils l) := by
    refine join_unique h1 (ceil_good hr) (fun z => ?_)
    rw [ceil_count Good.nil hr z, count_nil, most_ceils hr z]
    omega
  unfold vJoin kCeil
  rw [if_pos h1, if_pos h, h2]
theorem ceils_ok {l : List Ck} (hf : ∀ k ∈ l, Ok12 k) : ∀ v ∈ ceils l, Ok10 v := by
  intro v hv
  obtain ⟨k, hk, hv⟩ := List.mem_flatMap.1 hv
  have hok := hf k hk
  cases hd : k.d with
  | false =>
    rw [parts_no hd, List.mem_singleton] at hv
    rw [hv]
    exact hok.ok10
  | true =>
    rw [parts_yes hd] at hv
    simp at hv
    rcases hv with rfl | rfl
    · exact hok.ok10
    · refine ⟨by show 1 ≤ 10000; omega, ?_⟩
      intro x hx
      rw [List.mem_singleton.1 hx]
      exact ⟨hok.fit.dot, hok.fit.num⟩

/-! ### Ceiling -/
set_option maxRecDepth 100000 in
set_option maxHeartbeats 8000000 in
theorem ceil12 (w : World) (ao : Option Addr) (cap : Nat) (l : List Ck) (hl : l.length ≤ 100) (hf : ∀ k ∈ l, Ok12 k) (hc : ClksAt w ao l) :
    Calls Try.prog 18 #[.slice ao l.length cap] w (REnsE (kCeil l) w) := by
  have HC : Hid (ClksAt w ao l) := hc
  have HF : Hid (∀ k ∈ l, Ok12 k) := hf
  have hl' : (l.length : Int) ≤ 9223372036854775807 := by omega
  have HE : Hid (∀ (W : World) (e : Ending), kCeil l = ([], 1) → e = .returned (.tuple #[.slice none 0 0, .int .i64 1]) → Keep0 w W → REnsE (kCeil l) w e W) := fun _ _ h1 h2 h3 => REnsE.bare h1 h2 h3
  have HM : Hid (∀ (W0 W : World) (e : Ending), Keep0 w W0 → REnsE (kCeil l) W0 e W → REnsE (kCeil l) w e W) := by
    rintro W0 W e K ⟨bo, c, h1, h2, h3, h4⟩
    exact ⟨bo, c, h1, h2, (fun g off m e => Nat.le_trans K.size (h3 g off m e)), K.trans h4⟩
  have yr := right12 w ao cap l (by omega) hf hc
  clear hc hf
  cases hR : kRights l with
  | false =>
    have HV : Hid (kCeil l = ([], 1)) := ceil_no hR
    rw [hR] at yr
    clear hR
    go_enter Try.func18, Try.ntmps18
    go_wp2_with fail
    refine yr.mono ?_
    rintro e w1 ⟨rfl, k1⟩
    clear yr
    go_wp2
    go_ret2
    exact HE.out _ _ HV.out rfl k1
  | true =>
    have HV : Hid (vJoin (ceils l) = kCeil l) := ceils_join hR
    rw [hR] at yr
    obtain ⟨B, hB⟩ : ∃ B, w.heap.size = B := ⟨_, rfl⟩
    have HB : Hid (w.heap.size = B) := hB
    clear hB HE hR
    go_enter Try.func18, Try.ntmps18
    go_wp2_with fail
    refine yr.mono ?_
    rintro e w1 ⟨rfl, k1⟩
    have HS0 : Hid (Vecs w1 B (.slice none 0 0) []) := Vecs.new w1 B
    have HK1 : Hid (Keep0 w w1) := k1
    clear yr k1
    go_wp2_with fail
    go_loopw [4, 12] (fun v i wr => ∃ (k : Nat), i = .int .i64 (k : Int) ∧ k ≤ l.length ∧ Hid (Vecs wr B v (ceils (l.take k))) ∧ Keep0 w wr) (fun _ i _ => l.length - (intOf i).toNat)
    case atStart => exact ⟨0, rfl, by omega, HS0, HK1.out⟩
    case round =>
      obtain ⟨k, rfl, hk, HS, hK⟩ := hrel
      clear HS0 HK1
      obtain ⟨vo0, vc0, rfl, hsh0⟩ := HS.out.shape
      by_cases hlt : k < l.length
      · clear hsh0
        have i1 : (k : Int) < l.length := by omega
        obtain ⟨b, off, to, tc, rfl, x4, hE⟩ := HC.out k hlt
        obtain ⟨x0, x1, x2, x3⟩ := x4.keep0 hK
        clear x4
        have HP : Hid (ceils (l.take (k + 1)) = ceils (l.take k) ++ parts12 l[k]) := ceils_take hlt
        have hPl : (ceils (l.take k)).length ≤ 200 := by
          have h1 := ceils_len (l.take k)
          rw [List.length_take] at h1
          omega
        have kA : Keep0 wr (wr.alloc (.cells #[.slice to l[k].c.length tc, .bool l[k].d, .string l[k].x.a, .int .u64 (l[k].x.n : Int)] 27)) := (Keep.refl _ wr).alloc _
        have kB : Keep0 (wr.alloc (.cells #[.slice to l[k].c.length tc, .bool l[k].d, .string l[k].x.a, .int .u64 (l[k].x.n : Int)] 27)) ((wr.alloc (.cells #[.slice to l[k].c.length tc, .bool l[k].d, .string l[k].x.a, .int .u64 (l[k].x.n : Int)] 27)).alloc (.cells #[.slice to l[k].c.length tc] 22)) := (Keep.refl _ _).alloc _
        have zA : (wr.alloc (.cells #[.slice to l[k].c.length tc, .bool l[k].d, .string l[k].x.a, .int .u64 (l[k].x.n : Int)] 27)).heap.size = wr.heap.size + 1 := World.size_alloc _ _
        have HQ : Hid (ClkAt ((wr.alloc (.cells #[.slice to l[k].c.length tc, .bool l[k].d, .string l[k].x.a, .int .u64 (l[k].x.n : Int)] 27)).alloc (.cells #[.slice to l[k].c.length tc] 22)) wr.heap.size 0 l[k] to tc) := (clk_new wr 27 l[k] to tc).keep0 kB
        have hcell : ((wr.alloc (.cells #[.slice to l[k].c.length tc, .bool l[k].d, .string l[k].x.a, .int .u64 (l[k].x.n : Int)] 27)).alloc (.cells #[.slice to l[k].c.length tc] 22)).cell? ⟨wr.heap.size + 1, 0, none⟩ = some (.slice to l[k].c.length tc) := by rw [← zA]; exact cell_alloc _ 22 rfl
        have hKB := hK.trans (kA.trans kB)
        have hsB := HS.out.keep0 (kA.trans kB)
        have hEB := hE.keep0 hKB
        have hap : l[k].c ≠ [] → ∀ b2 off2 m, to = some ⟨b2, off2, m⟩ → (Value.slice vo0 (ceils (l.take k)).length vc0).ownBlock ≠ some b2 := fun hne b2 off2 m e f => by
          have h1 := ens_old hE hne b2 off2 m e
          have h2 := (hsB.lt b2 f).1
          have h3 := HB.out
          omega
        have hBB : B ≤ ((wr.alloc (.cells #[.slice to l[k].c.length tc, .bool l[k].d, .string l[k].x.a, .int .u64 (l[k].x.n : Int)] 27)).alloc (.cells #[.slice to l[k].c.length tc] 22)).heap.size := by have h1 := hKB.size; have h2 := HB.out; omega
        have HLt : Hid (∀ g, (Value.slice vo0 (ceils (l.take k)).length vc0).ownBlock = some g → B ≤ g ∧ g < wr.heap.size) := HS.out.lt
        have hsr := hK.size
        clear kA kB zA hE HS hK
        generalize l[k] = y at *
        generalize ceils (l.take k) = Q at *
        have hQ2 : Q.length ≤ 100000 := by omega
        go_wp2_with (at_builtin; refine wpList_append_vec rfl _ _ rfl rfl rfl hsB hcell hEB hap hBB hQ2 ?_)
        intro v' w2 gS gK
        have K2 : Keep0 w w2 := hKB.step gK (fun i hi f => by have h1 := (HLt.out i f).1; have h2 := HB.out; omega)
        have hQ2 : ClkAt w2 wr.heap.size 0 y to tc := by
          obtain ⟨q0, q1, q2, q3⟩ := HQ.out
          have hn : ¬ (Value.slice vo0 Q.length vc0).ownBlock = some wr.heap.size := fun f => by have := (HLt.out _ f).2; omega
          exact ⟨gK.cell q0 hn, gK.cell q1 hn, gK.cell q2 hn, gK.cell q3 hn⟩
        obtain ⟨q0, q1, q2, q3⟩ := hQ2
        obtain ⟨ro, rc, hre, hrs⟩ := gS.shape
        subst hre
        clear hrs gK HQ HLt hKB hsB hcell hEB hap hBB
        have hsz2 := K2.size
        clear x0 x1 x2 x3
        generalize wr.heap.size = G at *
        cases hd : y.d with
        | false =>
          have HP2 : Hid (Vecs w2 B (.slice ro (Q ++ [y.c]).length rc) (ceils (l.take (k + 1)))) := by rw [HP.out, parts_no hd]; exact gS
          rw [hd] at q1
          clear HP gS hd
          generalize (Q ++ [y.c]).length = QL at *
          go_wp2
          go_roundw
          case rel => exact ⟨k + 1, by go_num, by omega, HP2, K2⟩
          case measure => simp [intOf]; omega
        | true =>
          rw [hd] at q1
          have kA : Keep0 w2 (w2.alloc (.cells #[.string y.x.a, .int .u64 (y.x.n : Int)] 25)) := (Keep.refl _ w2).alloc _
          have kB : Keep0 (w2.alloc (.cells #[.string y.x.a, .int .u64 (y.x.n : Int)] 25)) ((w2.alloc (.cells #[.string y.x.a, .int .u64 (y.x.n : Int)] 25)).alloc (.cells #[.slice (some ⟨w2.heap.size, 0, none⟩) 1 1] 22)) := (Keep.refl _ _).alloc _
          have zA : (w2.alloc (.cells #[.string y.x.a, .int .u64 (y.x.n : Int)] 25)).heap.size = w2.heap.size + 1 := World.size_alloc _ _
          have hcell : ((w2.alloc (.cells #[.string y.x.a, .int .u64 (y.x.n : Int)] 25)).alloc (.cells #[.slice (some ⟨w2.heap.size, 0, none⟩) 1 1] 22)).cell? ⟨w2.heap.size + 1, 0, none⟩ = some (.slice (some ⟨w2.heap.size, 0, none⟩) ([y.x] : List En).length 1) := by rw [← zA]; exact cell_alloc _ 22 rfl
          have hEB : EnsAt ((w2.alloc (.cells #[.string y.x.a, .int .u64 (y.x.n : Int)] 25)).alloc (.cells #[.slice (some ⟨w2.heap.size, 0, none⟩) 1 1] 22)) (some ⟨w2.heap.size, 0, none⟩) [y.x] := (en_new w2 25 y.x).keep0 kB
          have hKB := K2.trans (kA.trans kB)
          have hsB := gS.keep0 (kA.trans kB)
          have hl2 := gS.lt
          have hap : ([y.x] : List En) ≠ [] → ∀ b2 off2 m, (some ⟨w2.heap.size, 0, none⟩ : Option Addr) = some ⟨b2, off2, m⟩ → (Value.slice ro (Q ++ [y.c]).length rc).ownBlock ≠ some b2 := fun _ b2 off2 m e f => by
            cases e
            have := (hl2 _ f).2
            omega
          have hBB : B ≤ ((w2.alloc (.cells #[.string y.x.a, .int .u64 (y.x.n : Int)] 25)).alloc (.cells #[.slice (some ⟨w2.heap.size, 0, none⟩) 1 1] 22)).heap.size := by have h1 := hKB.size; have h2 := HB.out; omega
          have HLt : Hid (∀ g, (Value.slice ro (Q ++ [y.c]).length rc).ownBlock = some g → B ≤ g ∧ g < w2.heap.size) := hl2
          have HP3 : Hid (ceils (l.take (k + 1)) = (Q ++ [y.c]) ++ [[y.x]]) := by
            show _ = _
            rw [HP.out, parts_yes hd, List.append_assoc]
            rfl
          have hq3 : (Q ++ [y.c]).length ≤ 100000 := by rw [List.length_append]; simp; omega
          clear kA kB zA gS hl2 HP hd
          generalize Q ++ [y.c] = R at *
          go_wp2_with (at_builtin; refine wpList_append_vec rfl _ _ rfl rfl rfl hsB hcell hEB hap hBB hq3 ?_)
          intro v3 w3 gS gK
          have K3 : Keep0 w w3 := hKB.step gK (fun i hi f => by have h1 := (HLt.out i f).1; have h2 := HB.out; omega)
          have HP4 : Hid (Vecs w3 B v3 (ceils (l.take (k + 1)))) := by rw [HP3.out]; exact gS
          obtain ⟨so, sc, hse, hss⟩ := gS.shape
          subst hse
          clear hss gS gK HLt hKB hsB hcell hEB hap hBB K2 q0 q1 q2 q3
          go_wp2
          go_roundw
          case rel => exact ⟨k + 1, by go_num, by omega, HP4, K3⟩
          case measure => simp [intOf]; omega
      · have i1 : ¬ (k : Int) < l.length := by omega
        rw [List.take_of_length_le (by omega)] at hsh0
        have e1 : (ceils (l.take k)).length = (ceils l).length := by rw [List.take_of_length_le (by omega)]
        rw [e1]
        have hcl := ceils_len l
        have yj := join10 wr vo0 vc0 (ceils l) (by omega) (ceils_ok HF.out) hsh0
        rw [HV.out] at yj
        clear HS hsh0 e1 HC HF
        generalize (ceils l).length = CL at *
        go_wp2_with fail
        refine yj.mono ?_
        rintro e w4 h4
        have h5 := HM.out _ _ _ hK h4
        obtain ⟨bo, c, rfl, _⟩ := h4
        have H5 : Hid (REnsE (kCeil l) w (.returned (.tuple #[.slice bo (kCeil l).1.length c, .int .i64 (kCeil l).2])) w4) := h5
        clear h5 yj HM
        generalize (kCeil l).1.length = VL at *
        generalize (kCeil l).2 = VE at *
        go_wp2
        go_ret2
        exact H5.out
end Go.Proofs.Ytkbihpdfafapeaa
