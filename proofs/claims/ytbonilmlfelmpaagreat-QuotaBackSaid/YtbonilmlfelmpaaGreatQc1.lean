/-
  The laws' own: so much, a tree's servers, weights; awake: contracts.
-/
import Derived.Test.YtbonilmlfelmpaaGreatQc0
import Derived.Test.YtbonilmlfelmpaaGreatHaA
import Derived.Test.YtbonilmlfelmpaaGreatWinA
import Derived.StillTailTactics
namespace Go.Proofs.YtbonilmlfelmpaaGreat
open Go.RowKit

set_option maxHeartbeats 1000000 in
theorem one13_any (n d : Int) (w : World) (n0 : 0 ≤ n) (n1 : n < 4294967296) (d0 : 0 ≤ d) (d1 : d < 4294967296) :
    Calls Tryz.prog 29 #[.int .u64 n, .int .u64 d] w (GivesR w 1 n d) := by
  have n9 : n ≤ 18446744073709551615 := by omega
  have d9 : d ≤ 18446744073709551615 := by omega
  have Z := Lib.hid (Blk.new w 35 #[.slice none 0 0, .slice none 0 0])
  have N1 := Lib.hid n1
  have D1 := Lib.hid d1
  clear n1 d1
  go_enter Tryz.func29, Tryz.ntmps29
  go_wp2_with fail
  refine (of_any n _ n0 n9).mono ?_
  rintro e w1 ⟨a1, l1, c1, z1, rfl, hr, hi, hb, hf⟩
  have R1 := Lib.hid hr; have I1 := Lib.hid hi; have F1 := Lib.hid hf
  have B := Lib.hid (below_next (wbox _ _) hb)
  have Z := Lib.hid (Z.out.below hb)
  clear hr hi hf hb
  go_wp2_with fail
  refine (of_any d _ d0 d9).mono ?_
  rintro e w2 ⟨a2, l2, c2, z2, rfl, hr, hi, hb, hf⟩
  have R1 := Lib.hid (R1.out.below hb)
  have R2 := Lib.hid hr; have I2 := Lib.hid hi; have F2 := Lib.hid hf
  have SZ := Lib.hid (show w.heap.size + 1 ≤ w1.heap.size by have := Z.out.lt; omega)
  have B := Lib.hid (below_next B.out hb)
  have Z := Lib.hid (Z.out.below hb)
  clear hr hi hf hb
  have s0 := Z.out.cell 0
  have s1 := Z.out.cell 1
  have f0 := Z.out.free 0
  have f1 := Z.out.free 1
  simp at s0 s1
  go_wp2
  have hn1 : ∀ ad : Addr, a1 = some ad → ad.block ≠ w.heap.size := fun ad e => by have h1 := F1.out ad e; simp at h1; omega
  have hn2 : ∀ ad : Addr, a2 = some ad → ad.block ≠ w.heap.size := fun ad e => by have h1 := F2.out ad e; have := SZ.out; omega
  refine bodyPost_ret (v := .agg #[.slice a1 l1 c1, .slice a2 l2 c2]) (by simp [results, Tryz.results29, go_sem, s0, s1]) rfl ⟨_, rfl, ⟨a1, l1, c1, z1, a2, l2, c2, z2, rfl, ?_, I1.out, ?_, I2.out, ?_, ?_, ?_, ?_⟩, ?_⟩
  · exact (R1.out.setCell _ _ hn1).setCell _ _ hn1
  · exact (R2.out.setCell _ _ hn2).setCell _ _ hn2
  · rw [← R1.out.len]; exact one_limb I1.out N1.out
  · rw [← R2.out.len]; exact one_limb I2.out D1.out
  · exact F1.out.mono (by simp)
  · exact F2.out.mono (by have := SZ.out; omega)
  · exact (B.out.setCell (Nat.le_refl _) _).setCell (Nat.le_refl _) _
theorem weight13_any (k id s a b : Int) (w : World) (x y : Int) (h : mkM (a, b) = (x, y)) : Calls Tryz.prog 11 #[.agg #[.int .i64 k, .int .i64 id, .int .i64 s, .int .i64 a, .int .i64 b]] w fun e w' => e = .returned (.agg #[.int .i64 x, .int .i64 y]) ∧ Below w.heap.size w w' := by
  have h1 := mask_le a 31 (by omega) (by omega)
  cases h
  have wr : IntKind.i64.wrap (bits .and .i64 a 31 - 1) = bits .and .i64 a 31 - 1 := IntWalk.i64_in _ (by omega)
  clear h1
  have K := Lib.hid (Blk.new w 42 #[.int .i64 k, .int .i64 id, .int .i64 s, .int .i64 a, .int .i64 b])
  have k3 := (K.out.alloc (.cells #[.int .i64 0, .int .i64 0] 46)).cell 3
  have k4 := (K.out.alloc (.cells #[.int .i64 0, .int .i64 0] 46)).cell 4
  simp at k3 k4
  go_enter Tryz.func11, Tryz.ntmps11
  go_wp2
  exact bodyPost_ret (v := .agg #[.int .i64 (bits .and .i64 a 31 - 1), .int .i64 (bits .and .i64 b 31)]) (by simp [results, Tryz.results11, go_sem]) rfl ⟨rfl, wbox2 _ _ _⟩
/-- of how much all is -/
def allV (a b : Int) : Int × Int := (bits .and .i64 a 7, 1 + bits .and .i64 b 3)
theorem allV_bd (a b : Int) : 0 ≤ (allV a b).1 ∧ (allV a b).1 ≤ 7 ∧ 1 ≤ (allV a b).2 ∧ (allV a b).2 ≤ 4 := by
  have h1 := mask_le a 7 (by omega) (by omega)
  have h2 := mask_le b 3 (by omega) (by omega)
  unfold allV
  omega
set_option maxHeartbeats 1000000 in
theorem all13_any (pa : Option Addr) (pl pc : Nat) (qa : Option Addr) (ql qc : Nat) (a b : Int) (w : World) (N D : Int) (h : allV a b = (N, D)) : Calls Tryz.prog 9 #[.agg #[.slice pa pl pc, .slice qa ql qc, .int .i64 a, .int .i64 b]] w (GivesR w 1 N D) := by
  obtain ⟨b1, b2, b3, b4⟩ := allV_bd a b
  rw [h] at b1 b2 b3 b4
  simp only at b1 b2 b3 b4
  unfold allV at h
  obtain ⟨hN, hD⟩ := Prod.mk.inj h
  obtain ⟨W1, hW1⟩ : ∃ W1, (w.alloc (.cells #[.slice pa pl pc, .slice qa ql qc, .int .i64 a, .int .i64 b] 26)).alloc (.cells #[.slice none 0 0, .slice none 0 0] 35) = W1 := ⟨_, rfl⟩
  have B1 := Lib.hid (show Below w.heap.size w W1 by rw [← hW1]; exact wbox2 _ _ _)
  have K := Lib.hid (show Blk W1 26 w.heap.size #[.slice pa pl pc, .slice qa ql qc, .int .i64 a, .int .i64 b] by rw [← hW1]; exact (Blk.new _ _ _).alloc _)
  have X := Lib.hid (show Blk W1 35 (w.heap.size + 1) #[.slice none 0 0, .slice none 0 0] by rw [← hW1]; exact Blk.new2 _ _ _ _)
  have k2 := K.out.cell 2; have k3 := K.out.cell 3
  simp at k2 k3
  have wr : IntKind.i64.wrap D = D := IntWalk.i64_in _ (by omega)
  have u1 : IntKind.u64.wrap N = N := IntWalk.u64_in _ (by omega)
  have u2 : IntKind.u64.wrap D = D := IntWalk.u64_in _ (by omega)
  have HB := Lib.hid (And.intro b1 (And.intro b2 (And.intro b3 b4)))
  have SZ := Lib.hid (show w.heap.size + 1 < W1.heap.size from X.out.lt)
  clear b1 b2 b3 b4 h
  go_enter Tryz.func9, Tryz.ntmps9
  go_wp2_with fail
  (try rw [hW1])
  refine (one13_any N D W1 (by have := HB.out; omega) (by have := HB.out; omega) (by have := HB.out; omega) (by have := HB.out; omega)).mono ?_
  rintro e w2 ⟨v, rfl, hr, hb⟩
  have X2 := Lib.hid (X.out.below hb)
  have B2 := Lib.hid (below_next B1.out hb)
  obtain ⟨n1, l1, cc1, z1, n2, l2, cc2, z2, rfl, q1, q2, q3, q4, q5, q6, q7, q8⟩ := hr
  have x0 := X2.out.cell 0; have x1 := X2.out.cell 1
  have f0 := X2.out.free 0; have f1 := X2.out.free 1
  simp at x0 x1
  have Q := Lib.hid (show GivesR w 1 N D (.returned (.agg #[.slice n1 l1 cc1, .slice n2 l2 cc2])) ((w2.setCell ⟨w.heap.size + 1, 0, none⟩ (.slice n1 l1 cc1)).setCell ⟨w.heap.size + 1, 1, none⟩ (.slice n2 l2 cc2)) by
    have hne : ∀ ad' : Addr, n1 = some ad' → ad'.block ≠ w.heap.size + 1 := fun ad' e => by have h1 := q7 ad' e; have := SZ.out; omega
    have hne2 : ∀ ad' : Addr, n2 = some ad' → ad'.block ≠ w.heap.size + 1 := fun ad' e => by have h1 := q8 ad' e; have := SZ.out; omega
    exact ⟨_, rfl, ⟨n1, l1, cc1, z1, n2, l2, cc2, z2, rfl, (q1.setCell _ _ hne).setCell _ _ hne, q2, (q3.setCell _ _ hne2).setCell _ _ hne2, q4, q5, q6, q7.mono B1.out.size, q8.mono B1.out.size⟩, (B2.out.setCell (Nat.le_add_right _ 1) _).setCell (Nat.le_add_right _ 1) _⟩)
  clear hb q1 q2 q3 q4 q5 q6 q7 q8 k2 k3
  go_wp2
  exact bodyPost_ret (v := .agg #[.slice n1 l1 cc1, .slice n2 l2 cc2]) (by simp [results, Tryz.results9, go_sem, x0, x1]) rfl Q.out
/-! ### a tree's servers -/
def parV (i : Nat) (z : Int) : Int := (z.tmod ((i : Int) + 1) + i + 1).tmod ((i : Int) + 1) - 1
theorem parV_bd (i : Nat) (z : Int) : -1 ≤ parV i z ∧ parV i z < (i : Int) := by
  have h0 : (0 : Int) < (i : Int) + 1 := by omega
  have h1 := Int.tmod_lt_of_pos z h0
  have h2 : -((i : Int) + 1) < z.tmod ((i : Int) + 1) := by
    have := Int.tmod_lt_of_pos (-z) h0
    rw [Int.neg_tmod] at this
    omega
  have h3 := Int.tmod_nonneg ((i : Int) + 1) (show 0 ≤ z.tmod ((i : Int) + 1) + i + 1 by omega)
  have h4 := Int.tmod_lt_of_pos (z.tmod ((i : Int) + 1) + i + 1) h0
  unfold parV
  omega
def quoV (qs : List (Int × Int)) (i : Nat) : Int × Int := match qs[i]? with
  | none => (16, 16)
  | some p => (bits .and .i64 p.1 31, 1 + bits .and .i64 p.2 15)
def srvV (zs : List Int) (qs : List (Int × Int)) (i : Nat) : Sv := ⟨parV i (zs.getD i 0), (quoV qs i).1, (quoV qs i).2⟩
def servV (zs : List Int) (qs : List (Int × Int)) (n : Nat) : List Sv := (List.range n).map (srvV zs qs)
theorem servV_len (zs : List Int) (qs : List (Int × Int)) (n : Nat) : (servV zs qs n).length = n := by unfold servV; simp
theorem servV_succ (zs : List Int) (qs : List (Int × Int)) (n : Nat) : servV zs qs (n + 1) = servV zs qs n ++ [srvV zs qs n] := by unfold servV; rw [List.range_succ, List.map_append]; rfl
theorem quoV_bd (qs : List (Int × Int)) (i : Nat) : 0 ≤ (quoV qs i).1 ∧ (quoV qs i).1 ≤ 31 ∧ 1 ≤ (quoV qs i).2 ∧ (quoV qs i).2 ≤ 16 := by
  unfold quoV
  split
  · simp
  · rename_i p _
    have h1 := mask_le p.1 31 (by omega) (by omega)
    have h2 := mask_le p.2 15 (by omega) (by omega)
    simp only
    omega
theorem servV_good (zs : List Int) (qs : List (Int × Int)) {n : Nat} (hn : n ≤ 16) : GoodSv (servV zs qs n) := by
  refine ⟨by rw [servV_len]; exact hn, fun i v hv => ?_⟩
  unfold servV at hv
  rw [List.getElem?_map] at hv
  rcases Nat.lt_or_ge i n with q | q
  · rw [List.getElem?_range q] at hv
    cases hv
    have h1 := parV_bd i (zs.getD i 0)
    have h2 := quoV_bd qs i
    unfold srvV
    simp only
    omega
  · rw [List.getElem?_eq_none (by simpa using q)] at hv
    cases hv
theorem Tryz.infoSv : (Tryz.prog.info? 61).map (fun i => (i.zero, i.size, i.bytes)) = some (some (.agg #[.int .i64 0, .int .i64 0, .int .i64 0]), 3, 24) := by kernel_rfl
theorem oneS (h : Sv) : ∀ u ∈ h.cs, u.oneCell' = true := by
  intro u hu
  simp [Sv.cs] at hu
  rcases hu with rfl | rfl | rfl <;> rfl
/-- append of one server to what is owned -/
theorem app_server {w : World} {ops : Array Oper} {rest : List Oper} {o : Oper} {act : Act} {Q : Exit → Act → World → Prop} (hgd : o.guard = none) (s x : Operand)
    (ho : o.op = .call { callee := .builtin .append, args := #[s, x], argTypes := #[29, 29] }) (base : Nat)
    (v : Value) (ns : List Sv) (hs : act.eval s = v) (hown : w.ownsRow base 61 3 v ns.length (ns.map Sv.cs).flatten) (g : Nat) (p : Sv) (hx : act.eval x = .slice (some ⟨g, 0, none⟩) 1 1)
    (hg : w.heap[g]? = some (.cells #[.int .i64 p.par, .int .i64 p.E, .int .i64 p.P] 61 (0, 0))) (hb : base ≤ w.heap.size) (hsm : ns.length ≤ 100000)
    (h : ∀ v' w', w'.ownsRow base 61 3 v' (ns ++ [p]).length ((ns ++ [p]).map Sv.cs).flatten → w.grownBy w' v.ownBlock → wpList Tryz.prog ops Q rest (act.put o.dst v') w') : wpList Tryz.prog ops Q (o :: rest) act w := by
  obtain ⟨i0, hi, hz0, hz1, hz2⟩ := info_parts Tryz.infoSv
  refine wpList_append_own _ hgd s x _ ho base _ i0 _ 3 24 Tryz.underlying29 hi hz0 hz1 hz2 rfl (by decide) v _ _ hs hown ⟨g, 0, none⟩ 1 1 [.int .i64 p.par, .int .i64 p.E, .int .i64 p.P] hx rfl (World.news_of_block (cs := #[.int .i64 p.par, .int .i64 p.E, .int .i64 p.P]) (t := 61) (fr := (0, 0)) hg) (by simp [Value.oneCell']) (by unfold maxLen; omega) (by omega) hb ?_
  intro v2 w2 ho2 hg2 _
  refine h v2 w2 ?_ hg2
  rw [List.length_append, List.map_append, List.flatten_append]
  have e : ([p].map Sv.cs).flatten = [.int .i64 p.par, .int .i64 p.E, .int .i64 p.P] := by simp [Sv.cs]
  rw [e]
  exact ho2
theorem getS {W : World} {base : Nat} {v : Value} {S : List Sv} (h : W.ownsRow base 61 3 v S.length (S.map Sv.cs).flatten) : ∃ a cap, v = .slice a S.length cap ∧ RowS W a S.length cap S ∧ Fresh base a := rowF_of_owns (wideS S) h (by rw [List.length_map])
set_option maxRecDepth 20000 in
set_option maxHeartbeats 4000000 in
theorem servers_any (pa : Option Addr) (pl pc : Nat) (zs : List Int) (qa : Option Addr) (ql qc : Nat) (qs : List (Int × Int)) (a b : Int) (w : World) (hp : Row .i64 w pa pl pc zs) (hq : RowP w qa ql qc qs) (n : Nat) (hn : min pl 8 = n) :
    Calls Tryz.prog 7 #[.agg #[.slice pa pl pc, .slice qa ql qc, .int .i64 a, .int .i64 b]] w fun e w' => ∃ sa cap, e = .returned (.slice sa n cap) ∧ RowS w' sa n cap (servV zs qs n) ∧ Fresh w.heap.size sa ∧ Below w.heap.size w w' := by
  obtain ⟨W1, hW1⟩ : ∃ W1, w.alloc (.cells #[.slice pa pl pc, .slice qa ql qc, .int .i64 a, .int .i64 b] 26) = W1 := ⟨_, rfl⟩
  have B1 := Lib.hid (show Below w.heap.size w W1 by rw [← hW1]; exact wbox _ _)
  have K := Lib.hid (show Blk W1 26 w.heap.size #[.slice pa pl pc, .slice qa ql qc, .int .i64 a, .int .i64 b] by rw [← hW1]; exact Blk.new _ _ _)
  have PR := Lib.hid (hp.below B1.out)
  have QR := Lib.hid (hq.below B1.out)
  have LP := Lib.hid hp.len
  have LQ := Lib.hid hq.len
  have ⟨cp1, cp2⟩ := hp.cap_le
  have ⟨cq1, cq2⟩ := hq.cap_le
  have HN := Lib.hid hn
  clear hp hq hn
  go_enter Tryz.func7, Tryz.ntmps7
  go_wp2
  try rw [hW1]
  clear hW1
  go_loopw [3, 4] (fun v u wr => ∃ i : Nat, u = .int .i64 i ∧ i ≤ n ∧ wr.ownsRow W1.heap.size 61 3 v (servV zs qs i).length ((servV zs qs i).map Sv.cs).flatten ∧ Below W1.heap.size W1 wr) (fun _ u _ => n - (intOf u).toNat)
  case atStart => exact ⟨0, rfl, by omega, World.ownsRow_nil _ _ _ _, Below.refl _ _⟩
  case round =>
    obtain ⟨i, rfl, il, hown, hbel⟩ := hrel
    have HO := Lib.hid hown
    have HW := Lib.hid hbel
    have k0 := (K.out.below hbel).cell 0
    have k1 := (K.out.below hbel).cell 1
    simp at k0 k1
    have hnn := HN.out
    clear hown hbel
    by_cases go : i < n
    · have t1 : decide ((i : Int) < (pl : Int)) = true := decide_eq_true (by omega)
      have t2 : decide ((i : Int) < 8) = true := decide_eq_true (by omega)
      obtain ⟨bp, op, rfl, hat⟩ := (PR.out.below HW.out).cell (show i < pl by omega)
      obtain ⟨z, hz⟩ : ∃ z, zs.getD i 0 = z := ⟨_, rfl⟩
      rw [hz] at hat
      have j1 : (i : Int) < (pl : Int) := by omega
      have j2 : 0 ≤ (i : Int) := by omega
      have wi : IntKind.i64.wrap ((i : Int) + 1) = (i : Int) + 1 := IntWalk.i64_in _ (by omega)
      have hm1 := Int.tmod_lt_of_pos z (show (0 : Int) < (i : Int) + 1 by omega)
      have hm2 : -((i : Int) + 1) < z.tmod ((i : Int) + 1) := by
        have := Int.tmod_lt_of_pos (-z) (show (0 : Int) < (i : Int) + 1 by omega)
        rw [Int.neg_tmod] at this
        omega
      have pb := parV_bd i z
      have wp : IntKind.i64.wrap ((z.tmod ((i : Int) + 1) + i + 1) % ((i : Int) + 1) - 1) = parV i z := by
        have h0 : 0 ≤ z.tmod ((i : Int) + 1) + i + 1 := by omega
        have e : parV i z = (z.tmod ((i : Int) + 1) + i + 1) % ((i : Int) + 1) - 1 := by unfold parV; rw [Int.tmod_eq_emod_of_nonneg h0]
        rw [← e]
        exact IntWalk.i64_in _ (by omega)
      obtain ⟨pv, hpv⟩ : ∃ pv, parV i z = pv := ⟨_, rfl⟩
      rw [hpv] at wp
      have S0 := Lib.hid (show srvV zs qs i = ⟨pv, (quoV qs i).1, (quoV qs i).2⟩ by unfold srvV; rw [hz, hpv])
      have SU := Lib.hid (servV_succ zs qs i)
      have LL := Lib.hid (servV_len zs qs i)
      have n0 : ¬ (i : Int) + 1 = 0 := by omega
      obtain ⟨W2, hW2⟩ : ∃ W2, wr.alloc (.cells #[.int .i64 pv, .int .i64 16, .int .i64 16] 61) = W2 := ⟨_, rfl⟩
      have B2 := Lib.hid (show Below wr.heap.size wr W2 by rw [← hW2]; exact wbox _ _)
      have S2 := Lib.hid (show Blk W2 61 wr.heap.size #[.int .i64 pv, .int .i64 16, .int .i64 16] by rw [← hW2]; exact Blk.new _ _ _)
      have BW2 := Lib.hid (below_next HW.out B2.out)
      have m1 := (K.out.below BW2.out).cell 1
      simp at m1
      have M1 := Lib.hid k1
      -- the append, whatever the quota
      by_cases hqi : i < ql
      · have t3 : decide ((i : Int) < (ql : Int)) = true := decide_eq_true (by omega)
        obtain ⟨bq, oq, rfl, hq0, hq1⟩ := (QR.out.below HW.out).cell hqi
        obtain ⟨p, hp⟩ : ∃ p, qs[i]? = some p := ⟨_, List.getElem?_eq_getElem (by rw [LQ.out]; exact hqi)⟩
        have hgd : qs.getD i (0, 0) = p := by rw [List.getD_eq_getElem?_getD, hp]; rfl
        rw [hgd] at hq0 hq1
        obtain ⟨p1, p2⟩ := p
        simp only at hq0 hq1
        have QV := Lib.hid (show quoV qs i = (bits .and .i64 p1 31, 1 + bits .and .i64 p2 15) by unfold quoV; rw [hp])
        have h2 := mask_le p2 15 (by omega) (by omega)
        have w2 : IntKind.i64.wrap (1 + bits .and .i64 p2 15) = 1 + bits .and .i64 p2 15 := IntWalk.i64_in _ (by omega)
        obtain ⟨e1, he1⟩ : ∃ e, bits .and .i64 p1 31 = e := ⟨_, rfl⟩
        obtain ⟨e2, he2⟩ : ∃ e, bits .and .i64 p2 15 = e := ⟨_, rfl⟩
        rw [he2] at w2 QV
        rw [he1] at QV
        have j3 : (i : Int) < (ql : Int) := by omega
        have f0 := S2.out.free 1
        have f1 := S2.out.free 2
        have s1 := S2.out.cell 1
        have s2 := S2.out.cell 2
        simp at s1 s2
        have C0 := Lib.hid hq0
        have C1 := Lib.hid hq1
        have KEPT := Lib.hid (show ∀ w' : World, Below wr.heap.size wr w' → w'.cell? ⟨w.heap.size, 1, none⟩ = some (.slice (some ⟨bq, oq, none⟩) ql qc) ∧ w'.cell? ⟨bq, oq + i * 2, none⟩ = some (.int .i64 p1) ∧ w'.cell? ⟨bq, oq + i * 2 + 1, none⟩ = some (.int .i64 p2) from fun w' h => ⟨hb_cell h M1.out, hb_cell h C0.out, hb_cell h C1.out⟩)
        have BB := Lib.hid (show Below wr.heap.size wr W2.drew from B2.out.drew)
        go_upto_region 7 with fail
        try rw [hW2]
        clear hW2 k0 k1 hp hgd h2 hq0 hq1
        go_region_held3 (fun w' => w'.cell? ⟨w.heap.size, 1, none⟩ = some (.slice (some ⟨bq, oq, none⟩) ql qc) ∧ w'.cell? ⟨bq, oq + i * 2, none⟩ = some (.int .i64 p1) ∧ w'.cell? ⟨bq, oq + i * 2 + 1, none⟩ = some (.int .i64 p2))
          (first | with_reducible exact KEPT.out _ BB.out | with_reducible exact KEPT.out _ ((B2.out.setCell (Nat.le_refl _) _).setCell (Nat.le_refl _) _).drew)
          (fail)
        all_goals
          have S3 := Lib.hid (show Blk ((W2.setCell ⟨wr.heap.size, 1, none⟩ (.int .i64 e1)).setCell ⟨wr.heap.size, 2, none⟩ (.int .i64 (1 + e2))).drew 61 wr.heap.size #[.int .i64 pv, .int .i64 e1, .int .i64 (1 + e2)] from ((S2.out.setH 1 (.int .i64 e1)).setH 2 (.int .i64 (1 + e2))).drew)
          have B3 := Lib.hid (show Below wr.heap.size wr ((W2.setCell ⟨wr.heap.size, 1, none⟩ (.int .i64 e1)).setCell ⟨wr.heap.size, 2, none⟩ (.int .i64 (1 + e2))).drew from ((B2.out.setCell (Nat.le_refl _) _).setCell (Nat.le_refl _) _).drew)
          obtain ⟨W3, hW3⟩ : ∃ W3, ((W2.setCell ⟨wr.heap.size, 1, none⟩ (.int .i64 e1)).setCell ⟨wr.heap.size, 2, none⟩ (.int .i64 (1 + e2))).drew = W3 := ⟨_, rfl⟩
          rw [hW3] at S3 B3 ⊢
          have y0 := S3.out.cell 0; have y1 := S3.out.cell 1; have y2 := S3.out.cell 2
          simp at y0 y1 y2
          have SV := Lib.hid (show srvV zs qs i = ⟨pv, e1, 1 + e2⟩ by rw [S0.out, QV.out])
          clear hW3 s1 s2 f0 f1 m1
          go_wp2_with (at_builtin; refine app_server rfl _ _ rfl W1.heap.size _ (servV zs qs i) rfl ((owns_below HO.out B3.out).alloc _) _ ⟨pv, e1, 1 + e2⟩ rfl (heap_alloc_new _ _) (by have := HW.out.size; have := B3.out.size; simp; omega) (by have := LL.out; omega) ?_; intro v' w' ho hg; have HO2 := Lib.hid ho; have B4 := Lib.hid (show Below W1.heap.size W1 w' from ((below_next HW.out B3.out).alloc (by have := HW.out.size; have := B3.out.size; omega) _).grown hg (by have := HW.out.size; have := B3.out.size; simp; omega) (fun k e => (HO.out.lt k e).1)); clear ho hg)
          rw [← SV.out, ← SU.out] at HO2
          go_wp2
          go_roundw
          case rel => exact ⟨i + 1, by go_num, by omega, HO2.out, B4.out⟩
          case measure => simp [intOf]; omega
      · have t3 : decide ((i : Int) < (ql : Int)) = false := decide_eq_false (by omega)
        have QV := Lib.hid (show quoV qs i = (16, 16) by unfold quoV; rw [List.getElem?_eq_none (by rw [LQ.out]; omega)])
        have SV := Lib.hid (show srvV zs qs i = ⟨pv, 16, 16⟩ by rw [S0.out, QV.out])
        have B3 := Lib.hid B2.out
        have y0 := S2.out.cell 0; have y1 := S2.out.cell 1; have y2 := S2.out.cell 2
        simp at y0 y1 y2
        go_upto_region 8 with fail
        try rw [hW2]
        clear hW2 k0 k1 m1
        go_wp2_with (at_builtin; refine app_server rfl _ _ rfl W1.heap.size _ (servV zs qs i) rfl ((owns_below HO.out B3.out).alloc _) _ ⟨pv, 16, 16⟩ rfl (heap_alloc_new _ _) (by have := HW.out.size; have := B3.out.size; simp; omega) (by have := LL.out; omega) ?_; intro v' w' ho hg; have HO2 := Lib.hid ho; have B4 := Lib.hid (show Below W1.heap.size W1 w' from ((below_next HW.out B3.out).alloc (by have := HW.out.size; have := B3.out.size; omega) _).grown hg (by have := HW.out.size; have := B3.out.size; simp; omega) (fun k e => (HO.out.lt k e).1)); clear ho hg)
        rw [← SV.out, ← SU.out] at HO2
        go_wp2
        go_roundw
        case rel => exact ⟨i + 1, by go_num, by omega, HO2.out, B4.out⟩
        case measure => simp [intOf]; omega
    · have IE := Lib.hid (show i = n by omega)
      have BT := Lib.hid (below_next B1.out HW.out)
      have SZ := Lib.hid B1.out.size
      obtain ⟨sa, cap, rfl, hr, hf⟩ := getS HO.out
      have R := Lib.hid hr
      have FR := Lib.hid hf
      rw [servV_len] at R ⊢
      rw [IE.out] at R ⊢
      clear hr hf
      by_cases hlt : i < pl
      · have t1 : decide ((i : Int) < (pl : Int)) = true := decide_eq_true (by omega)
        have t2 : decide ((i : Int) < 8) = false := decide_eq_false (by omega)
        rw [IE.out] at t1 t2
        clear hlt go
        go_wp2
        all_goals
          go_ret
          exact ⟨sa, cap, rfl, R.out, FR.out.mono SZ.out, BT.out⟩
      · have t1 : decide ((i : Int) < (pl : Int)) = false := decide_eq_false (by omega)
        rw [IE.out] at t1
        clear hlt go
        go_wp2
        all_goals
          go_ret
          exact ⟨sa, cap, rfl, R.out, FR.out.mono SZ.out, BT.out⟩
end Go.Proofs.YtbonilmlfelmpaaGreat
