/-
  Package slot's each, with Quanta's closure; Quanta: contracts.
-/
import Derived.Test.YtndhpihgeacdfaaSw0
import Derived.Test.YtndhpihgeacdfaaSs2
namespace Go.Proofs.Ytndhpihgeacdfaa
open Go.RowKit

set_option maxRecDepth 20000 in
theorem pquanta1_any (c : Int) (n : Int) (p : Nat) (w : World) (h : Blk w 2 p #[.int .i64 n]) (n0 : 0 ≤ n) (n1 : n ≤ 20000000) :
    Calls Try.prog 33 #[.int .i64 c, .pointer (some ⟨p, 0, none⟩)] w fun e w' => e = .returned (.tuple #[]) ∧ Blk w' 2 p #[.int .i64 (n + 1)] ∧ Keeps (fun k => k = p) w w' := by
  have H := Lib.hid h
  have x0 := h.cell 0
  have f0 := h.free 0
  simp at x0
  have wv : IntKind.i64.wrap (n + 1) = n + 1 := IntWalk.i64_in _ (by omega)
  clear h
  go_enter Try.func33, Try.ntmps33
  go_wp2
  exact bodyPost_end (v := .tuple #[]) (by simp [results, Try.results33, go_sem]) rfl ⟨rfl, heap_setCell_same w p 0 _ _ _ H.out, (Keeps.refl (fun k => k = p) w).set (.inl rfl) _ _⟩
theorem quU_nn (l : List Ru) (id : Int) : 0 ≤ ((quU l id : Nat) : Int) ∧ ((quU l id : Nat) : Int) ≤ l.length := by
  have := qu_le l id
  omega
set_option maxRecDepth 20000 in
set_option maxHeartbeats 4000000 in
theorem peach_quanta (a : Option Addr) (len cap : Nat) (l : List Sk) (id : Int) (p : Nat) (w0 w : World) (h : RowK w0 a len cap l) (hs : SmallK l) (hb : Below w0.heap.size w0 w) (hp : w0.heap.size ≤ p) (hq : Blk w 2 p #[.int .i64 (quU [] id : Nat)]) :
    Calls Try.prog 32 #[.slice a len cap, .int .i64 id, .func (.func 33) #[] #[.pointer (some ⟨p, 0, none⟩)]] w fun e w' => e = .returned (.tuple #[]) ∧ Blk w' 2 p #[.int .i64 (quU (allR l) id : Nat)] ∧ Below w0.heap.size w0 w' := by
  have H := Lib.hid h
  have LN := Lib.hid h.len
  have HS := Lib.hid hs
  have len4 : len ≤ 4096 := by rw [← h.len]; exact hs.a
  have BW := Lib.hid hb
  have HQ := Lib.hid hq
  have HP := Lib.hid hp
  clear h hs hb hq hp
  go_enter Try.func32, Try.ntmps32
  go_wp2
  go_loopw [12] (fun u wr => ∃ i : Nat, u = .int .i64 i ∧ i ≤ len ∧ Blk wr 2 p #[.int .i64 (quU (allR (l.take i)) id : Nat)] ∧ Below w0.heap.size w0 wr) (fun u _ => len - (intOf u).toNat)
  case atStart => exact ⟨0, rfl, by omega, HQ.out, BW.out⟩
  case round =>
    obtain ⟨i, rfl, i1, hst, hb⟩ := hrel
    have ST := Lib.hid hst
    have B := Lib.hid hb
    clear hst hb
    by_cases go : i < len
    · have b1 : decide ((i : Int) < (len : Int)) = true := by simp; omega
      have b1' : decide (i < len) = true := by simp; omega
      obtain ⟨s, hsi, hts⟩ := get_of (l := l) (i := i) (by rw [LN.out]; exact go)
      have TS := Lib.hid (show allR (l.take (i + 1)) = allR (l.take i) ++ s.runs by rw [hts, all_snoc])
      have PR := Lib.hid (HS.out.pre hsi)
      have RL := Lib.hid (HS.out.b s (List.mem_of_getElem? hsi))
      obtain ⟨ba, oa, ao, lo, co, rfl, x0, x1, hu⟩ := H.out.at hsi
      have HU := Lib.hid hu
      have LU := Lib.hid hu.len
      have HX := Lib.hid x1
      have x0 := cell_on B.out x0
      have x1 := cell_on B.out x1
      have i3 : (i : Int) < (len : Int) := by omega
      have i0 : 0 ≤ (i : Int) := by omega
      have lo4 : lo ≤ 4096 := by rw [← LU.out]; exact RL.out
      obtain ⟨tm, rs⟩ := s
      replace x0 : wr.cell? ⟨ba, oa + i * 2, none⟩ = some (.int .i64 tm) := x0
      obtain ⟨W2, hW2⟩ : ∃ W2, wr.alloc (.cells #[.int .i64 tm, .slice ao lo co] 47) = W2 := ⟨_, rfl⟩
      have B2 := Lib.hid (show Below w0.heap.size w0 W2 by rw [← hW2]; exact B.out.trans ((wbox _ _).mono B.out.size))
      have R2 := Lib.hid (show Blk W2 47 wr.heap.size #[.int .i64 tm, .slice ao lo co] by rw [← hW2]; exact Blk.new _ _ _)
      have S2 := Lib.hid (show Blk W2 2 p #[.int .i64 (quU (allR (l.take i)) id : Nat)] by rw [← hW2]; exact ST.out.alloc _)
      have y0 := R2.out.cell 0; have y1 := R2.out.cell 1
      simp at y0 y1
      replace TS := Lib.hid (show allR (l.take (i + 1)) = allR (l.take i) ++ rs from TS.out)
      replace LU := Lib.hid (show rs.length = lo from LU.out)
      replace HU := Lib.hid (show RowU w0 ao lo co rs from HU.out)
      replace PR := Lib.hid (show ∀ k, (allR (l.take i) ++ rs.take k).length ≤ 20000000 from PR.out)
      clear hu hsi hts
      go_wp2
      try rw [hW2]
      clear hW2 x0 x1
      obtain ⟨P, hP⟩ : ∃ P, allR (l.take i) = P := ⟨_, rfl⟩
      rw [hP] at TS S2 PR
      go_step3
      go_wp2
      go_step3
      go_wp2
      clear y0 y1
      go_loopw [19] (fun u wx => ∃ k : Nat, u = .int .i64 k ∧ k ≤ lo ∧ Blk wx 2 p #[.int .i64 (quU (P ++ rs.take k) id : Nat)] ∧ Below w0.heap.size w0 wx) (fun u _ => lo - (intOf u).toNat)
      case atStart => exact ⟨0, rfl, by omega, by simpa using S2.out, B2.out⟩
      case round =>
        obtain ⟨k, rfl, k1, hst, hb⟩ := hrel
        have SK := Lib.hid hst
        have BK := Lib.hid hb
        clear hst hb
        by_cases go2 : k < lo
        · have d1 : decide ((k : Int) < (lo : Int)) = true := by simp; omega
          have d1' : decide (k < lo) = true := by simp; omega
          obtain ⟨r, hr, hrs⟩ := get_of (l := rs) (i := k) (by rw [LU.out]; exact go2)
          have PN := Lib.hid (show P ++ rs.take (k + 1) = (P ++ rs.take k) ++ [r] by rw [hrs, List.append_assoc])
          have PK := PR.out k
          obtain ⟨bb, ob, rfl, hat⟩ := HU.out.at hr
          have z0 := cell_on BK.out hat.c0; have z1 := cell_on BK.out hat.c1; have z2 := cell_on BK.out hat.c2
          have k3 : (k : Int) < (lo : Int) := by omega
          have k0 : 0 ≤ (k : Int) := by omega
          obtain ⟨rid, rcore, ridx⟩ := r
          replace z0 : wr.cell? ⟨bb, ob + k * 3, none⟩ = some (.int .i64 rid) := z0
          replace z1 : wr.cell? ⟨bb, ob + k * 3 + 1, none⟩ = some (.int .i64 rcore) := z1
          replace z2 : wr.cell? ⟨bb, ob + k * 3 + 2, none⟩ = some (.int .i64 ridx) := z2
          obtain ⟨W3, hW3⟩ : ∃ W3, wr.alloc (.cells #[.int .i64 rid, .int .i64 rcore, .int .i64 ridx] 44) = W3 := ⟨_, rfl⟩
          have B3 := Lib.hid (show Below w0.heap.size w0 W3 by rw [← hW3]; exact BK.out.trans ((wbox _ _).mono BK.out.size))
          have R3 := Lib.hid (show Blk W3 44 wr.heap.size #[.int .i64 rid, .int .i64 rcore, .int .i64 ridx] by rw [← hW3]; exact Blk.new _ _ _)
          have S3 := Lib.hid (show Blk W3 2 p #[.int .i64 (quU (P ++ rs.take k) id : Nat)] by rw [← hW3]; exact SK.out.alloc _)
          have y0 := R3.out.cell 0; have y1 := R3.out.cell 1; have y2 := R3.out.cell 2
          simp at y0 y1 y2
          obtain ⟨Q, hQ⟩ : ∃ Q, P ++ rs.take k = Q := ⟨_, rfl⟩
          rw [hQ] at S3 PK PN
          clear hr hrs hat hQ
          by_cases e : rid = id
          · have d2 : (rid != id) = false := by simp [e]
            have QE := Lib.hid (show ((quU (P ++ rs.take (k + 1)) id : Nat) : Int) = ((quU Q id : Nat) : Int) + 1 by rw [PN.out, qu_snoc, if_pos e]; rfl)
            have ⟨qn0, qn1⟩ := quU_nn Q id
            clear e
            go_wp2_with fail
            refine (pquanta1_any rcore _ p _ S3.out (by omega) (by omega)).mono ?_
            rintro e w4 ⟨rfl, hbk, hk⟩
            have NX := Lib.hid (show Blk w4 2 p #[.int .i64 (quU (P ++ rs.take (k + 1)) id : Nat)] by rw [QE.out]; exact hbk)
            have B4 := Lib.hid (show Below w0.heap.size w0 w4 from hk.below B3.out (fun k (e : k = p) => by have := HP.out; omega) B3.out.size)
            clear hbk hk
            go_wp2
            go_roundw
            case rel => exact ⟨k + 1, by go_num, by omega, NX.out, B4.out⟩
            case measure => simp [intOf]; omega
          · have d2 : (rid != id) = true := by simp [e]
            have NX := Lib.hid (show Blk W3 2 p #[.int .i64 (quU (P ++ rs.take (k + 1)) id : Nat)] by rw [PN.out, qu_snoc, if_neg e, Nat.add_zero]; exact S3.out)
            clear e
            go_wp2
            go_roundw
            case rel => exact ⟨k + 1, by go_num, by omega, NX.out, B3.out⟩
            case measure => simp [intOf]; omega
        · have d1 : decide ((k : Int) < (lo : Int)) = false := by simp; omega
          have d1' : decide (k < lo) = false := by simp; omega
          have NX := Lib.hid (show Blk wr 2 p #[.int .i64 (quU (allR (l.take (i + 1))) id : Nat)] by rw [TS.out]; have h1 := SK.out; rw [List.take_of_length_le (show rs.length ≤ k by rw [LU.out]; omega)] at h1; exact h1)
          go_wp2
          rw [Exit.noGoto_normal]
          go_wp2
          go_roundw
          case rel => exact ⟨i + 1, by go_num, by omega, NX.out, BK.out⟩
          case measure => simp [intOf]; omega
    · have b1 : decide ((i : Int) < (len : Int)) = false := by simp; omega
      have b1' : decide (i < len) = false := by simp; omega
      have NX := Lib.hid (show Blk wr 2 p #[.int .i64 (quU (allR l) id : Nat)] by have h1 := ST.out; rw [List.take_of_length_le (show l.length ≤ i by rw [LN.out]; omega)] at h1; exact h1)
      go_wp2
      exact bodyPost_end (v := .tuple #[]) (by simp [results, Try.results32, go_sem]) rfl ⟨rfl, NX.out, B.out⟩
set_option maxRecDepth 20000 in
theorem pquanta_any (a : Option Addr) (len cap : Nat) (l : List Sk) (id : Int) (w : World) (h : RowK w a len cap l) (hs : SmallK l) :
    Calls Try.prog 19 #[.slice a len cap, .int .i64 id] w fun e w' => e = .returned (.int .i64 (quU (allR l) id : Nat)) ∧ Below w.heap.size w w' := by
  have H := Lib.hid h
  have HS := Lib.hid hs
  clear h hs
  have hmf : ∀ (fn : Fn) (first cap : Array Value) (w : World), (Instr.makeFunc fn first cap).run Try.prog w = .ok (.func fn first cap) w := fun _ _ _ _ => rfl
  have B1 := Lib.hid (show Below w.heap.size w (w.alloc (.cells #[.int .i64 0] 2)) from wbox _ _)
  have X1 := Lib.hid (show Blk (w.alloc (.cells #[.int .i64 0] 2)) 2 w.heap.size #[.int .i64 0] from Blk.new _ _ _)
  go_enter Try.func19, Try.ntmps19
  go_wp2_with fail
  refine (peach_quanta a len cap l id w.heap.size w _ H.out HS.out B1.out (Nat.le_refl _) X1.out).mono ?_
  rintro e w2 ⟨rfl, hq, hb⟩
  have B2 := Lib.hid hb
  have x0 := hq.cell 0
  simp at x0
  clear hq hb
  go_wp2
  go_ret
  exact ⟨rfl, B2.out⟩
end Go.Proofs.Ytndhpihgeacdfaa
