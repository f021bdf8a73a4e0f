/-
  Package slot's each, with Moves's closure; Moves: contracts.
-/
import Derived.Test.YtndhpihgeacdfaaSw3
import Derived.BigQuiet
namespace Go.Proofs.Ytndhpihgeacdfaa
open Go.RowKit

/-- what three boxes hold: how many runs, the moves, the last core -/
structure MB (W : World) (p : Nat) (P : List Ru) (id : Int) : Prop where
  a : Blk W 3 p #[.int .i64 (quU P id : Nat)]
  b : Blk W 3 (p + 1) #[.int .i64 ((mvU P id).1 : Nat)]
  c : Blk W 3 (p + 2) #[.int .i64 ((mvU P id).2.getD 0)]
theorem MB.below {W W' : World} {p : Nat} {P : List Ru} {id : Int} (h : MB W p P id) (hb : Below W.heap.size W W') : MB W' p P id := ⟨h.a.below hb, h.b.below hb, h.c.below hb⟩
theorem MB.alloc {W : World} {p : Nat} {P : List Ru} {id : Int} (h : MB W p P id) (o : Obj) : MB (W.alloc o) p P id := h.below (wbox _ _)
theorem mv_some : ∀ (P : List Ru) (id : Int) (st : Nat × Option Int), (P.foldl (mvStep id) st).2.isSome = (st.2.isSome || decide (0 < quU P id))
  | [], id, st => by simp [quU]
  | r :: P, id, st => by
    rw [List.foldl_cons, mv_some P id]
    unfold mvStep quU
    rw [List.countP_cons]
    by_cases e : r.id = id
    · simp [e]
    · simp [e]
theorem mv_is (P : List Ru) (id : Int) : (mvU P id).2.isSome = decide (0 < quU P id) := by unfold mvU; rw [mv_some]; simp
theorem mb_skip {P : List Ru} {r : Ru} {id : Int} (h : ¬ r.id = id) : quU (P ++ [r]) id = quU P id ∧ mvU (P ++ [r]) id = mvU P id := by
  refine ⟨by rw [qu_snoc, if_neg h]; rfl, by rw [mv_snoc]; unfold mvStep; rw [if_neg h]⟩
theorem MB.skip {W : World} {p : Nat} {P : List Ru} {r : Ru} {id : Int} (h : MB W p P id) (e : ¬ r.id = id) : MB W p (P ++ [r]) id := by
  obtain ⟨a, b, c⟩ := h
  have ⟨g1, g2⟩ := mb_skip (P := P) e
  exact ⟨by rw [g1]; exact a, by rw [g2]; exact b, by rw [g2]; exact c⟩
/-- what the closure does to the three -/
def mvNext (q n c core : Int) : Int := if 0 < q ∧ ¬ core = c then n + 1 else n
theorem mv_next {P : List Ru} {r : Ru} {id : Int} (h : r.id = id) : ((mvU (P ++ [r]) id).1 : Int) = mvNext (quU P id) (mvU P id).1 ((mvU P id).2.getD 0) r.core ∧ (mvU (P ++ [r]) id).2 = some r.core := by
  have hs := mv_is P id
  rw [mv_snoc]
  unfold mvStep mvNext
  rw [if_pos h]
  cases hc : (mvU P id).2 with
  | none =>
    rw [hc] at hs
    simp at hs
    simp [hs]
  | some c =>
    rw [hc] at hs
    simp at hs
    refine ⟨?_, rfl⟩
    simp only [Option.getD_some]
    by_cases e : r.core = c
    · simp [e]
    · have hq : 0 < quU P id := by omega
      simp [e, hq]
theorem fin2 {w : World} {p : Nat} {q n c core : Int} (ha : Blk w 3 p #[.int .i64 q]) (hb : Blk w 3 (p + 1) #[.int .i64 n]) (hc : Blk w 3 (p + 2) #[.int .i64 c]) :
    Ending.returned (.tuple #[]) = .returned (.tuple #[]) ∧ Blk ((w.setCell ⟨p, 0, none⟩ (.int .i64 (q + 1))).setCell ⟨p + 2, 0, none⟩ (.int .i64 core)) 3 p #[.int .i64 (q + 1)] ∧ Blk ((w.setCell ⟨p, 0, none⟩ (.int .i64 (q + 1))).setCell ⟨p + 2, 0, none⟩ (.int .i64 core)) 3 (p + 1) #[.int .i64 n] ∧ Blk ((w.setCell ⟨p, 0, none⟩ (.int .i64 (q + 1))).setCell ⟨p + 2, 0, none⟩ (.int .i64 core)) 3 (p + 2) #[.int .i64 core] ∧ Keeps (fun k => p ≤ k ∧ k ≤ p + 2) w ((w.setCell ⟨p, 0, none⟩ (.int .i64 (q + 1))).setCell ⟨p + 2, 0, none⟩ (.int .i64 core)) := by
  have k1 : Keeps (fun k => k = p) w (w.setCell ⟨p, 0, none⟩ (.int .i64 (q + 1))) := (Keeps.refl (fun k => k = p) w).set (.inl rfl) _ _
  have k2 : Keeps (fun k => k = p + 2) (w.setCell ⟨p, 0, none⟩ (.int .i64 (q + 1))) ((w.setCell ⟨p, 0, none⟩ (.int .i64 (q + 1))).setCell ⟨p + 2, 0, none⟩ (.int .i64 core)) := (Keeps.refl (fun k => k = p + 2) _).set (.inl rfl) _ _
  exact ⟨rfl, Blk.keeps (heap_setCell_same w p 0 _ _ _ ha) k2 (by omega), (hb.keeps k1 (by omega)).keeps k2 (by omega), heap_setCell_same _ (p + 2) 0 _ _ _ (hc.keeps k1 (by omega)),
    ((Keeps.refl (fun k => p ≤ k ∧ k ≤ p + 2) w).set (.inl (by omega)) _ _).set (.inl (by omega)) _ _⟩
theorem fin3 {w : World} {p : Nat} {q n c core : Int} (ha : Blk w 3 p #[.int .i64 q]) (hb : Blk w 3 (p + 1) #[.int .i64 n]) (hc : Blk w 3 (p + 2) #[.int .i64 c]) :
    Ending.returned (.tuple #[]) = .returned (.tuple #[]) ∧ Blk (((w.setCell ⟨p + 1, 0, none⟩ (.int .i64 (n + 1))).setCell ⟨p, 0, none⟩ (.int .i64 (q + 1))).setCell ⟨p + 2, 0, none⟩ (.int .i64 core)) 3 p #[.int .i64 (q + 1)] ∧ Blk (((w.setCell ⟨p + 1, 0, none⟩ (.int .i64 (n + 1))).setCell ⟨p, 0, none⟩ (.int .i64 (q + 1))).setCell ⟨p + 2, 0, none⟩ (.int .i64 core)) 3 (p + 1) #[.int .i64 (n + 1)] ∧ Blk (((w.setCell ⟨p + 1, 0, none⟩ (.int .i64 (n + 1))).setCell ⟨p, 0, none⟩ (.int .i64 (q + 1))).setCell ⟨p + 2, 0, none⟩ (.int .i64 core)) 3 (p + 2) #[.int .i64 core] ∧ Keeps (fun k => p ≤ k ∧ k ≤ p + 2) w (((w.setCell ⟨p + 1, 0, none⟩ (.int .i64 (n + 1))).setCell ⟨p, 0, none⟩ (.int .i64 (q + 1))).setCell ⟨p + 2, 0, none⟩ (.int .i64 core)) := by
  have k0 : Keeps (fun k => k = p + 1) w (w.setCell ⟨p + 1, 0, none⟩ (.int .i64 (n + 1))) := (Keeps.refl (fun k => k = p + 1) w).set (.inl rfl) _ _
  obtain ⟨_, a, b, c', k⟩ := fin2 (core := core) (ha.keeps k0 (by omega)) (heap_setCell_same w (p + 1) 0 _ _ _ hb) (hc.keeps k0 (by omega))
  exact ⟨rfl, a, b, c', ((Keeps.refl (fun k => p ≤ k ∧ k ≤ p + 2) w).set (.inl (by omega)) _ _).trans k (fun x e => .inl e)⟩
set_option maxRecDepth 20000 in
set_option maxHeartbeats 4000000 in
theorem pmoves1_any (core : Int) (q n c : Int) (p : Nat) (w : World) (ha : Blk w 3 p #[.int .i64 q]) (hb : Blk w 3 (p + 1) #[.int .i64 n]) (hc : Blk w 3 (p + 2) #[.int .i64 c]) (q0 : 0 ≤ q) (q1 : q ≤ 20000000) (n0 : 0 ≤ n) (n1 : n ≤ 20000000) :
    Calls Try.prog 34 #[.int .i64 core, .pointer (some ⟨p, 0, none⟩), .pointer (some ⟨p + 2, 0, none⟩), .pointer (some ⟨p + 1, 0, none⟩)] w fun e w' => e = .returned (.tuple #[]) ∧ Blk w' 3 p #[.int .i64 (q + 1)] ∧ Blk w' 3 (p + 1) #[.int .i64 (mvNext q n c core)] ∧ Blk w' 3 (p + 2) #[.int .i64 core] ∧ Keeps (fun k => p ≤ k ∧ k ≤ p + 2) w w' := by
  have HA := Lib.hid ha
  have HB := Lib.hid hb
  have HC := Lib.hid hc
  have x0 := ha.cell 0; have x1 := hb.cell 0; have x2 := hc.cell 0
  have f0 := ha.free 0; have f1 := hb.free 0; have f2 := hc.free 0
  simp at x0 x1 x2
  have wv : IntKind.i64.wrap (q + 1) = q + 1 := IntWalk.i64_in _ (by omega)
  have wn : IntKind.i64.wrap (n + 1) = n + 1 := IntWalk.i64_in _ (by omega)
  have K0 := Lib.hid (Keeps.refl (fun k => p ≤ k ∧ k ≤ p + 2) w)
  clear ha hb hc
  by_cases z : 0 < q
  · have d1 : decide (0 < q) = true := decide_eq_true z
    by_cases e : core = c
    · have d2 : (core != c) = false := by simp [e]
      have V := Lib.hid (show mvNext q n c core = n by unfold mvNext; rw [if_neg (by omega)])
      clear e
      go_enter Try.func34, Try.ntmps34
      go_wp2
      rw [V.out]
      exact bodyPost_end (v := .tuple #[]) (by simp [results, Try.results34, go_sem]) rfl (fin2 HA.out HB.out HC.out)
    · have d2 : (core != c) = true := by simp [e]
      have V := Lib.hid (show mvNext q n c core = n + 1 by unfold mvNext; rw [if_pos ⟨z, e⟩])
      clear e
      go_enter Try.func34, Try.ntmps34
      go_wp2
      rw [V.out]
      exact bodyPost_end (v := .tuple #[]) (by simp [results, Try.results34, go_sem]) rfl (fin3 HA.out HB.out HC.out)
  · have d1 : decide (0 < q) = false := decide_eq_false z
    have V := Lib.hid (show mvNext q n c core = n by unfold mvNext; rw [if_neg (by omega)])
    go_enter Try.func34, Try.ntmps34
    go_wp2
    rw [V.out]
    exact bodyPost_end (v := .tuple #[]) (by simp [results, Try.results34, go_sem]) rfl (fin2 HA.out HB.out HC.out)
set_option maxRecDepth 20000 in
set_option maxHeartbeats 4000000 in
theorem peach_moves (a : Option Addr) (len cap : Nat) (l : List Sk) (id : Int) (p : Nat) (w0 w : World) (h : RowK w0 a len cap l) (hs : SmallK l) (hb : Below w0.heap.size w0 w) (hp : w0.heap.size ≤ p) (hq : MB w p [] id) :
    Calls Try.prog 32 #[.slice a len cap, .int .i64 id, .func (.func 34) #[] #[.pointer (some ⟨p, 0, none⟩), .pointer (some ⟨p + 2, 0, none⟩), .pointer (some ⟨p + 1, 0, none⟩)]] w fun e w' => e = .returned (.tuple #[]) ∧ MB w' p (allR l) id ∧ Below w0.heap.size w0 w' := by
  have H := Lib.hid h
  have LN := Lib.hid h.len
  have HS := Lib.hid hs
  have len4 : len ≤ 4096 := by rw [← h.len]; exact hs.a
  have BW := Lib.hid hb
  have HQ := Lib.hid hq
  have HP := Lib.hid hp
  clear h hs hb hq hp
  go_enter Try.func32, Try.ntmps32
  go_wp2
  go_loopw [12] (fun u wr => ∃ i : Nat, u = .int .i64 i ∧ i ≤ len ∧ MB wr p (allR (l.take i)) id ∧ Below w0.heap.size w0 wr) (fun u _ => len - (intOf u).toNat)
  case atStart => exact ⟨0, rfl, by omega, HQ.out, BW.out⟩
  case round =>
    obtain ⟨i, rfl, i1, hst, hb⟩ := hrel
    have ST := Lib.hid hst
    have B := Lib.hid hb
    clear hst hb
    by_cases go : i < len
    · have b1 : decide ((i : Int) < (len : Int)) = true := by simp; omega
      have b1' : decide (i < len) = true := by simp; omega
      obtain ⟨s, hsi, hts⟩ := get_of (l := l) (i := i) (by rw [LN.out]; exact go)
      have TS := Lib.hid (show allR (l.take (i + 1)) = allR (l.take i) ++ s.runs by rw [hts, all_snoc])
      have PR := Lib.hid (HS.out.pre hsi)
      have RL := Lib.hid (HS.out.b s (List.mem_of_getElem? hsi))
      obtain ⟨ba, oa, ao, lo, co, rfl, x0, x1, hu⟩ := H.out.at hsi
      have HU := Lib.hid hu
      have LU := Lib.hid hu.len
      have HX := Lib.hid x1
      have x0 := cell_on B.out x0
      have x1 := cell_on B.out x1
      have i3 : (i : Int) < (len : Int) := by omega
      have i0 : 0 ≤ (i : Int) := by omega
      have lo4 : lo ≤ 4096 := by rw [← LU.out]; exact RL.out
      obtain ⟨tm, rs⟩ := s
      replace x0 : wr.cell? ⟨ba, oa + i * 2, none⟩ = some (.int .i64 tm) := x0
      obtain ⟨W2, hW2⟩ : ∃ W2, wr.alloc (.cells #[.int .i64 tm, .slice ao lo co] 47) = W2 := ⟨_, rfl⟩
      have B2 := Lib.hid (show Below w0.heap.size w0 W2 by rw [← hW2]; exact B.out.trans ((wbox _ _).mono B.out.size))
      have R2 := Lib.hid (show Blk W2 47 wr.heap.size #[.int .i64 tm, .slice ao lo co] by rw [← hW2]; exact Blk.new _ _ _)
      have S2 := Lib.hid (show MB W2 p (allR (l.take i)) id by rw [← hW2]; exact ST.out.alloc _)
      have y0 := R2.out.cell 0; have y1 := R2.out.cell 1
      simp at y0 y1
      replace TS := Lib.hid (show allR (l.take (i + 1)) = allR (l.take i) ++ rs from TS.out)
      replace LU := Lib.hid (show rs.length = lo from LU.out)
      replace HU := Lib.hid (show RowU w0 ao lo co rs from HU.out)
      replace PR := Lib.hid (show ∀ k, (allR (l.take i) ++ rs.take k).length ≤ 20000000 from PR.out)
      clear hu hsi hts
      go_wp2
      try rw [hW2]
      clear hW2 x0 x1
      obtain ⟨P, hP⟩ : ∃ P, allR (l.take i) = P := ⟨_, rfl⟩
      rw [hP] at TS S2 PR
      go_step3
      go_wp2
      go_step3
      go_wp2
      clear y0 y1
      go_loopw [19] (fun u wx => ∃ k : Nat, u = .int .i64 k ∧ k ≤ lo ∧ MB wx p (P ++ rs.take k) id ∧ Below w0.heap.size w0 wx) (fun u _ => lo - (intOf u).toNat)
      case atStart => exact ⟨0, rfl, by omega, by simpa using S2.out, B2.out⟩
      case round =>
        obtain ⟨k, rfl, k1, hst, hb⟩ := hrel
        have SK := Lib.hid hst
        have BK := Lib.hid hb
        clear hst hb
        by_cases go2 : k < lo
        · have d1 : decide ((k : Int) < (lo : Int)) = true := by simp; omega
          have d1' : decide (k < lo) = true := by simp; omega
          obtain ⟨r, hr, hrs⟩ := get_of (l := rs) (i := k) (by rw [LU.out]; exact go2)
          have PN := Lib.hid (show P ++ rs.take (k + 1) = (P ++ rs.take k) ++ [r] by rw [hrs, List.append_assoc])
          have PK := PR.out k
          obtain ⟨bb, ob, rfl, hat⟩ := HU.out.at hr
          have z0 := cell_on BK.out hat.c0; have z1 := cell_on BK.out hat.c1; have z2 := cell_on BK.out hat.c2
          have k3 : (k : Int) < (lo : Int) := by omega
          have k0 : 0 ≤ (k : Int) := by omega
          obtain ⟨rid, rcore, ridx⟩ := r
          replace z0 : wr.cell? ⟨bb, ob + k * 3, none⟩ = some (.int .i64 rid) := z0
          replace z1 : wr.cell? ⟨bb, ob + k * 3 + 1, none⟩ = some (.int .i64 rcore) := z1
          replace z2 : wr.cell? ⟨bb, ob + k * 3 + 2, none⟩ = some (.int .i64 ridx) := z2
          obtain ⟨W3, hW3⟩ : ∃ W3, wr.alloc (.cells #[.int .i64 rid, .int .i64 rcore, .int .i64 ridx] 44) = W3 := ⟨_, rfl⟩
          have B3 := Lib.hid (show Below w0.heap.size w0 W3 by rw [← hW3]; exact BK.out.trans ((wbox _ _).mono BK.out.size))
          have R3 := Lib.hid (show Blk W3 44 wr.heap.size #[.int .i64 rid, .int .i64 rcore, .int .i64 ridx] by rw [← hW3]; exact Blk.new _ _ _)
          have S3 := Lib.hid (show MB W3 p (P ++ rs.take k) id by rw [← hW3]; exact SK.out.alloc _)
          have y0 := R3.out.cell 0; have y1 := R3.out.cell 1; have y2 := R3.out.cell 2
          simp at y0 y1 y2
          obtain ⟨Q, hQ⟩ : ∃ Q, P ++ rs.take k = Q := ⟨_, rfl⟩
          rw [hQ] at S3 PK PN
          clear hr hrs hat hQ
          by_cases e : rid = id
          · have d2 : (rid != id) = false := by simp [e]
            have QE := Lib.hid (show ((quU (P ++ rs.take (k + 1)) id : Nat) : Int) = ((quU Q id : Nat) : Int) + 1 by rw [PN.out, qu_snoc, if_pos e]; rfl)
            have ⟨qn0, qn1⟩ := quU_nn Q id
            have MN := Lib.hid (show ((mvU (P ++ rs.take (k + 1)) id).1 : Int) = mvNext (quU Q id) (mvU Q id).1 ((mvU Q id).2.getD 0) rcore by rw [PN.out]; exact (mv_next e).1)
            have MC := Lib.hid (show (mvU (P ++ rs.take (k + 1)) id).2.getD 0 = rcore by rw [PN.out, (mv_next e).2]; rfl)
            have mn := mv_le Q id (0, none)
            replace mn : (mvU Q id).1 ≤ 0 + Q.length := mn
            clear e
            go_wp2_with fail
            refine (pmoves1_any rcore _ _ _ p _ S3.out.a S3.out.b S3.out.c (by omega) (by omega) (by omega) (by omega)).mono ?_
            rintro e w4 ⟨rfl, hx, hy, hz, hk⟩
            have NX := Lib.hid (show MB w4 p (P ++ rs.take (k + 1)) id from ⟨by rw [QE.out]; exact hx, by rw [MN.out]; exact hy, by rw [MC.out]; exact hz⟩)
            have B4 := Lib.hid (show Below w0.heap.size w0 w4 from hk.below B3.out (fun k (e : p ≤ k ∧ k ≤ p + 2) => by have := HP.out; omega) B3.out.size)
            clear hx hy hz hk mn
            go_wp2
            go_roundw
            case rel => exact ⟨k + 1, by go_num, by omega, NX.out, B4.out⟩
            case measure => simp [intOf]; omega
          · have d2 : (rid != id) = true := by simp [e]
            have NX := Lib.hid (show MB W3 p (P ++ rs.take (k + 1)) id by rw [PN.out]; exact S3.out.skip e)
            clear e
            go_wp2
            go_roundw
            case rel => exact ⟨k + 1, by go_num, by omega, NX.out, B3.out⟩
            case measure => simp [intOf]; omega
        · have d1 : decide ((k : Int) < (lo : Int)) = false := by simp; omega
          have d1' : decide (k < lo) = false := by simp; omega
          have NX := Lib.hid (show MB wr p (allR (l.take (i + 1))) id by rw [TS.out]; have h1 := SK.out; rw [List.take_of_length_le (show rs.length ≤ k by rw [LU.out]; omega)] at h1; exact h1)
          go_wp2
          rw [Exit.noGoto_normal]
          go_wp2
          go_roundw
          case rel => exact ⟨i + 1, by go_num, by omega, NX.out, BK.out⟩
          case measure => simp [intOf]; omega
    · have b1 : decide ((i : Int) < (len : Int)) = false := by simp; omega
      have b1' : decide (i < len) = false := by simp; omega
      have NX := Lib.hid (show MB wr p (allR l) id by have h1 := ST.out; rw [List.take_of_length_le (show l.length ≤ i by rw [LN.out]; omega)] at h1; exact h1)
      go_wp2
      exact bodyPost_end (v := .tuple #[]) (by simp [results, Try.results32, go_sem]) rfl ⟨rfl, NX.out, B.out⟩
set_option maxRecDepth 20000 in
set_option maxHeartbeats 4000000 in
theorem pmoves_any (a : Option Addr) (len cap : Nat) (l : List Sk) (id : Int) (w : World) (h : RowK w a len cap l) (hs : SmallK l) :
    Calls Try.prog 20 #[.slice a len cap, .int .i64 id] w fun e w' => e = .returned (.int .i64 ((mvU (allR l) id).1 : Nat)) ∧ Below w.heap.size w w' := by
  have H := Lib.hid h
  have HS := Lib.hid hs
  clear h hs
  have hmf : ∀ (fn : Fn) (first cap : Array Value) (w : World), (Instr.makeFunc fn first cap).run Try.prog w = .ok (.func fn first cap) w := fun _ _ _ _ => rfl
  have B1 := Lib.hid (show Below w.heap.size w (((w.alloc (.cells #[.int .i64 0] 3)).alloc (.cells #[.int .i64 0] 3)).alloc (.cells #[.int .i64 0] 3)) from wbox3 _ _ _ _)
  have X1 := Lib.hid (show MB (((w.alloc (.cells #[.int .i64 0] 3)).alloc (.cells #[.int .i64 0] 3)).alloc (.cells #[.int .i64 0] 3)) w.heap.size [] id from
    ⟨((Blk.new w 3 #[.int .i64 0]).alloc _).alloc _, (Blk.new2 w (.cells #[.int .i64 0] 3) 3 #[.int .i64 0]).alloc _, by have := Blk.new2 (w.alloc (.cells #[.int .i64 0] 3)) (.cells #[.int .i64 0] 3) 3 #[.int .i64 0]; rw [wsize] at this; exact this⟩)
  go_enter Try.func20, Try.ntmps20
  go_wp2_with fail
  refine (peach_moves a len cap l id w.heap.size w _ H.out HS.out B1.out (Nat.le_refl _) X1.out).mono ?_
  rintro e w2 ⟨rfl, hq, hb⟩
  have B2 := Lib.hid hb
  have x0 := hq.b.cell 0
  simp at x0
  clear hq hb
  go_wp2
  go_ret
  exact ⟨rfl, B2.out⟩
end Go.Proofs.Ytndhpihgeacdfaa
