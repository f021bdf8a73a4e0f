/-
  The walk of SuperOrder: it answers true, and writes nothing that was there.
-/
import Derived.Test.YtnlgophgglgneaaSl12
import Derived.Test.YtnlgophgglgneaaSzC
import Derived.Test.YtnlgophgglgneaaWinA
import Derived.BigQuiet
import Derived.Deep.CutBlock
import Derived.Deep.DeepCutAuto
namespace Go.Proofs.Ytnlgophgglgneaa
open Go.RowKit

/-- the first job of a row of jobs, in memory -/
theorem first_job {W : World} {aj : Option Addr} {n cap : Nat} {js : List Jb} {r : List Jb} {p i rl d l : Int} (h : RowF W aj n cap 5 (js.map Jb.cs)) (hn : 0 < n) (e : js = (⟨p, i, rl, d, l⟩ : Jb) :: r) :
    ∃ b off, aj = some ⟨b, off, none⟩ ∧ W.cell? ⟨b, off, none⟩ = some (.int .i64 p) ∧ W.cell? ⟨b, off + 1, none⟩ = some (.int .i64 i) ∧ W.cell? ⟨b, off + 2, none⟩ = some (.int .i64 rl) ∧ W.cell? ⟨b, off + 3, none⟩ = some (.int .i64 d) ∧ W.cell? ⟨b, off + 4, none⟩ = some (.int .i64 l) := by
  obtain ⟨b, off, e2, hc⟩ := h.2.2.2.2 0 hn
  subst e
  have c0 := hc 0 (by omega)
  have c1 := hc 1 (by omega)
  have c2 := hc 2 (by omega)
  have c3 := hc 3 (by omega)
  have c4 := hc 4 (by omega)
  simp [Jb.cs] at c0 c1 c2 c3 c4
  exact ⟨b, off, e2, c0, c1, c2, c3, c4⟩
theorem cell_keeps {F : Nat → Prop} {w w' : World} {b o : Nat} {v : Value} (k : Keeps F w w') (hF : ¬ F b) (h : w.cell? ⟨b, o, none⟩ = some v) : w'.cell? ⟨b, o, none⟩ = some v :=
  (World.cell?_of_block (w := w) (a := ⟨b, o, none⟩) (k.block b (World.block_lt_of_cell? _ _ h) hF)).trans h
theorem Has14.alone {w wr w' : World} {am : Option Addr} {lm cm : Nat} {qs : List (Int × Int)} {g gc cp g9 : Nat} {s : SS} (h : Has14 w am lm cm qs g gc cp s wr) (k : Keeps (fun k => k = g9) wr w') (h1 : ¬ (g9 = g ∨ g9 = gc)) (h2 : ∀ ad : Addr, am = some ad → ¬ ad.block = g9) (h3 : w.heap.size ≤ g9) : Has14 w am lm cm qs g gc cp s w' :=
  ⟨h.at_.keeps k (fun e => h1 (.inl e.symm)) (fun e => h1 (.inr e.symm)), h.row.keepsP k h2, h.ne, h.lo, k.below h.bel (fun x e => by rw [e]; exact h3) h.bel.size⟩
set_option maxRecDepth 20000 in
set_option maxHeartbeats 16000000 in
theorem sorder_walk (a : Option Addr) (len cap : Nat) (ps : List (Int × Int)) (a2 : Option Addr) (len2 cap2 : Nat) (zs : List Int) (w : World) (h : RowP w a len cap ps) (hz : Row .i64 w a2 len2 cap2 zs) :
    Calls Try.prog 7 #[.slice a len cap, .slice a2 len2 cap2] w fun e w' => e = .returned (.bool true) ∧ Below w.heap.size w w' := by
  have H := Lib.hid h
  have HZ := Lib.hid hz
  have ⟨z1, z2⟩ := hz.cap_le
  clear h hz
  go_enter Try.func7, Try.ntmps7
  go_wp2_with fail
  refine (awake14_any w).mono ?_
  rintro e w1 ⟨rfl, hb⟩
  have B1 := Lib.hid hb
  clear hb
  go_wp2_with fail
  refine (made14_any a len cap ps w1 (H.out.below B1.out)).mono ?_
  rintro e w2 ⟨am, lm, cm, rfl, hr, hb, _⟩
  have M8 := Lib.hid (made14_len ps)
  obtain ⟨qs, hqs⟩ : ∃ q, made14 ps = q := ⟨_, rfl⟩
  rw [hqs] at hr M8
  have RM := Lib.hid hr
  have B2 := Lib.hid (below_next B1.out hb)
  have LQ := Lib.hid hr.len
  have ⟨k1, k2⟩ := hr.cap_le
  clear hb hr hqs
  obtain ⟨E, P, er, hv⟩ : ∃ E P er, wgtV qs = (E, P, er) := ⟨_, _, _, rfl⟩
  have HV := Lib.hid hv
  clear hv
  by_cases he : er = 0
  · subst he
    have hM := (wgt_enough HV.out).1
    have l1 : 0 < lm := by have := hM.some_; have := LQ.out; omega
    have l8 : lm ≤ 8 := by have := M8.out; have := LQ.out; omega
    clear hM
    go_wp2_with fail
    refine (snew_yes am lm cm qs 0 w2 RM.out E P HV.out (by decide) (by decide)).mono ?_
    rintro e w3 ⟨g, gc, cp, rfl, hs, lg, lc, hb3⟩
    have S3 := Lib.hid (has_new B2.out RM.out l1 hs lg lc hb3)
    clear hs lg lc hb3
    obtain ⟨W4, hW4⟩ : ∃ W, w3.alloc (.cells #[.int .i64 0, .int .i64 0, .int .i64 0, .int .i64 0, .int .i64 0, .int .i64 0, .int .i64 0, .int .i64 0] 47) = W := ⟨_, rfl⟩
    have S4 := Lib.hid (show Has14 w am lm cm qs g gc cp (ss0 qs 0) W4 by rw [← hW4]; exact S3.out.below (wbox _ _))
    have N4 := Lib.hid (show Blk W4 47 w3.heap.size (nxA (ss0 qs 0)) by rw [nxA_zero, ← hW4]; exact Blk.new _ _ _)
    have NE := Lib.hid (show ¬ (w3.heap.size = g ∨ w3.heap.size = gc) by have := S3.out.at_.lt; omega)
    have NL := Lib.hid S3.out.bel.size
    go_wp2
    have AM := Lib.hid (show ∀ ad : Addr, am = some ad → ¬ ad.block = w3.heap.size from fun ad e => by
      obtain ⟨bb, off, e2, hc, _⟩ := S3.out.row.cell l1
      have lt := World.block_lt_of_cell? _ _ hc
      rw [e2] at e
      cases e
      exact Nat.ne_of_lt lt)
    obtain ⟨g9, hg9⟩ : ∃ v, w3.heap.size = v := ⟨_, rfl⟩
    rw [hg9] at N4 NE NL AM ⊢
    clear hW4 hg9
    go_loopw [8, 10] (fun u v wr => ∃ (now : Int) (i : Nat) (s : SS), u = .int .i64 now ∧ v = .int .i64 i ∧ i ≤ 60 ∧ 0 ≤ now ∧ now ≤ 7 * i ∧ s.last ≤ now ∧ s.n = lm ∧ s.served + s.idle ≤ i ∧ 0 ≤ s.idle ∧ Has14 w am lm cm qs g gc cp s wr ∧ Blk wr 47 g9 (nxA s)) (fun _ v _ => 60 - (intOf v).toNat)
    case atStart => exact ⟨0, 0, ss0 qs 0, rfl, rfl, by omega, by omega, by omega, Int.le_refl _, LQ.out, Int.le_refl _, Int.le_refl _, S4.out, N4.out⟩
    case round =>
      obtain ⟨now, i, s, rfl, rfl, i4, n0, n7, hlast, hsn, hcnt, hid, hS, hN⟩ := hrel
      have S := Lib.hid hS
      have N := Lib.hid hN
      have GD := Lib.hid hS.at_.good
      have sv0 := hS.at_.good.s0
      clear S4 N4 hS hN
      by_cases go : i < len2 ∧ i < 60
      · obtain ⟨g1, g2⟩ := go
        have b1 : decide (i < len2) = true := by simp; omega
        have b1' : decide ((i : Int) < (len2 : Int)) = true := by simp; omega
        have b2 : decide ((i : Int) < 60) = true := by simp; omega
        have b3 : decide (i < 60) = true := by simp; omega
        have c5 : (i : Int) < (len2 : Int) := by omega
        have c6 : 0 ≤ (i : Int) := by omega
        obtain ⟨bz, oz, rfl, yx⟩ := (HZ.out.below S.out.bel).cell g1
        obtain ⟨GV, hGV⟩ : ∃ v, zs.getD i 0 = v := ⟨_, rfl⟩
        rw [hGV] at yx
        clear hGV
        have mk := mask_le GV 7 (by decide) (by decide)
        obtain ⟨M, hM⟩ : ∃ v, bits .and .i64 GV 7 = v := ⟨_, rfl⟩
        rw [hM] at mk
        have w8 : IntKind.i64.wrap (now + M) = now + M := IntWalk.i64_in _ (by omega)
        obtain ⟨nx, hnx⟩ : ∃ v, now + M = v := ⟨_, rfl⟩
        rw [hnx] at w8
        have nx0 : 0 ≤ nx := by omega
        have nx1 : nx ≤ 7 * ((i + 1 : Nat) : Int) := by omega
        have MY := Lib.hid (show mayS s nx = true from may_is.mpr (by omega))
        have LS := Lib.hid (grant_last MY.out)
        have SN := Lib.hid (show (grantS s nx).n = lm by rw [← hsn]; unfold SS.n; rw [(grant_ps s nx).1])
        have CT := Lib.hid (show (grantS s nx).served + (grantS s nx).idle ≤ ((i + 1 : Nat) : Int) by
          have h1 := grant_count s nx
          split at h1 <;> omega)
        have CI := Lib.hid (show 0 ≤ (grantS s nx).idle by have := (grant_idle (s := s) nx).1; omega)
        have REL := Lib.hid (fun h => grant_rel GD.out (t := nx) h)
        go_wp2_with fail
        clear yx hM w8 mk hnx
        refine (sjobs_any g gc cp s nx wr S.out.at_ (by omega)).mono ?_
        rintro e wa ⟨aj, cj, rfl, hrow, hba, hfr⟩
        have SA := Lib.hid (S.out.below hba)
        have NA := Lib.hid (N.out.below hba)
        have JR := Lib.hid hrow
        have ⟨jl1, jl2⟩ : (jobsV s nx).length ≤ cj ∧ cj ≤ 9223372036854775807 := ⟨hrow.2.1, hrow.2.2.1⟩
        have JF := Lib.hid (show ∀ ad : Addr, aj = some ad → ¬ (ad.block = g ∨ ad.block = gc) from fun ad e => by
          have h1 := hfr ad e
          have h2 := S.out.at_.lt
          omega)
        clear hba hrow hfr
        cases hbs : bestS s nx with
        | none =>
          have JN := Lib.hid (jobs_none GD.out hbs)
          have GB := Lib.hid (grant_none MY.out hbs).2.1
          have NX := Lib.hid (nxA_same (ix_none MY.out hbs))
          clear hbs
          rw [JN.out]
          obtain ⟨⟨p1, i1, r1, d1, l1'⟩, hJ⟩ : ∃ j, grantJ s nx = j := ⟨_, rfl⟩
          go_wp2_with fail
          refine (sgrant_any g gc cp s nx wa SA.out.at_ (by omega) (by omega)).mono ?_
          rintro e wb ⟨rfl, hsb, hkb⟩
          have SB := Lib.hid (SA.out.keeps hkb hsb)
          have NB := Lib.hid (NA.out.keeps hkb NE.out)
          clear hsb hkb
          rw [GB.out, hJ]
          clear hJ
          unfold Jb.v
          obtain ⟨W5, hW5⟩ : ∃ W, wb.alloc (.cells #[.int .i64 p1, .int .i64 i1, .int .i64 r1, .int .i64 d1, .int .i64 l1'] 39) = W := ⟨_, rfl⟩
          have S5 := Lib.hid (show Has14 w am lm cm qs g gc cp (grantS s nx) W5 by rw [← hW5]; exact SB.out.below (wbox _ _))
          have N5 := Lib.hid (show Blk W5 47 g9 (nxA (grantS s nx)) by rw [NX.out, ← hW5]; exact NB.out.below (wbox _ _))
          go_wp2
          clear hW5
          go_roundw
          case rel => exact ⟨nx, i + 1, _, rfl, by go_num, by omega, nx0, nx1, Int.le_of_eq LS.out, SN.out, CT.out, CI.out, S5.out, N5.out⟩
          case measure => simp [intOf]; omega
        | some b =>
          obtain ⟨r, hjs⟩ := jobs_some GD.out MY.out hbs
          have bn := (best_some s.E s.P s.D s.A nx hbs).1
          have bl : b < lm := by rw [← hsn]; exact bn
          have b8 : b < 8 := by omega
          have IXB := Lib.hid (ix_best GD.out MY.out hbs)
          have IXO := Lib.hid (nxA_set (s := s) (s' := grantS s nx) b8 (ix_other MY.out hbs))
          have IXE := Lib.hid (show lfS s b - 1 ≠ 0 → nxA (grantS s nx) = nxA s from fun q => nxA_same fun j => by
            by_cases e : j = b
            · rw [e, IXB.out, if_neg q]
            · exact ix_other MY.out hbs j e)
          have ⟨x1, x2, x3, x4⟩ := ix_bd GD.out bn
          have mb := (GD.out.mb bn).2
          have dv := GD.out.d1 b
          have GJ := Lib.hid (grant_some MY.out hbs)
          have RB := REL.out (GJ.out.2.1)
          obtain ⟨ix, hix⟩ : ∃ v, ixS s b = v := ⟨_, rfl⟩
          obtain ⟨lf, hlf⟩ : ∃ v, lfS s b = v := ⟨_, rfl⟩
          obtain ⟨rl, hrl⟩ : ∃ v, s.A + (ixS s b + ((0 : Nat) : Int)) * s.P b = v := ⟨_, rfl⟩
          obtain ⟨dl, hdl⟩ : ∃ v, s.A + (ixS s b + ((0 : Nat) : Int)) * s.P b + s.P b = v := ⟨_, rfl⟩
          have J0 : jobS s b 0 = ⟨b, ix, rl, dl, lf⟩ := by
            unfold jobS
            rw [hdl, hrl, if_pos rfl, hlf, ← hix]
            simp
          rw [J0] at hjs
          have GJ1 := Lib.hid (show grantJ s nx = ⟨b, ix, rl, dl, lf - 1⟩ by rw [GJ.out.1, J0, hlf])
          have GJ2 := Lib.hid GJ.out.2.1
          rw [GJ1.out] at RB
          obtain ⟨rb1, rb2, rb3, rb4⟩ : 0 ≤ rl ∧ rl ≤ nx ∧ rl ≤ dl ∧ dl ≤ nx + 1048576 := RB
          rw [hix] at x1 x2
          rw [hlf] at x3 x4 IXB IXE
          rw [hix] at IXB
          obtain ⟨ix', hix'⟩ : ∃ v, ixS (grantS s nx) b = v := ⟨_, rfl⟩
          rw [hix'] at IXB IXO
          have C9 := Lib.hid (show ∀ W, Blk W 47 g9 (nxA s) → W.cell? ⟨g9, b, none⟩ = some (.int .i64 ix) from fun W h => by rw [h.cell b, nxA_get s b8, hix])
          have jn : 0 < (jobsV s nx).length := by rw [hjs]; simp
          obtain ⟨bj, oj, rfl, j0, j1, j2, j3, j4⟩ := first_job JR.out jn hjs
          have FJ := JF.out _ rfl
          obtain ⟨n, hn⟩ : ∃ v, (jobsV s nx).length = v := ⟨_, rfl⟩
          rw [hn] at jn jl1 ⊢
          have lf9 : lf ≤ 1048576 := by omega
          have ix9 : ix ≤ 1000000 := by omega
          clear hrl hdl hix hlf hix' J0 hjs hn GJ hbs
          go_wp2_with fail
          refine (sgrant_any g gc cp s nx wa SA.out.at_ (by omega) (by omega)).mono ?_
          rintro e wb ⟨rfl, hsb, hkb⟩
          have SB := Lib.hid (SA.out.keeps hkb hsb)
          have NB := Lib.hid (NA.out.keeps hkb NE.out)
          replace j0 := cell_keeps hkb FJ j0
          replace j1 := cell_keeps hkb FJ j1
          replace j2 := cell_keeps hkb FJ j2
          replace j3 := cell_keeps hkb FJ j3
          replace j4 := cell_keeps hkb FJ j4
          clear hsb hkb FJ
          rw [GJ2.out, GJ1.out]
          unfold Jb.v
          have t3 : decide (0 < n) = true := by simp; omega
          have t4 : decide (0 < (n : Int)) = true := by simp; omega
          have t5 : (0 : Int) < (n : Int) := by omega
          obtain ⟨W5, hW5⟩ : ∃ W, wb.alloc (.cells #[.int .i64 b, .int .i64 ix, .int .i64 rl, .int .i64 dl, .int .i64 (lf - 1)] 39) = W := ⟨_, rfl⟩
          have bx := wbox wb (.cells #[.int .i64 b, .int .i64 ix, .int .i64 rl, .int .i64 dl, .int .i64 (lf - 1)] 39)
          rw [hW5] at bx
          have S5 := Lib.hid (SB.out.below bx)
          have N5 := Lib.hid (NB.out.below bx)
          have X5 := Lib.hid (show Blk W5 39 wb.heap.size #[.int .i64 b, .int .i64 ix, .int .i64 rl, .int .i64 dl, .int .i64 (lf - 1)] by rw [← hW5]; exact Blk.new _ _ _)
          obtain ⟨g12, hg12⟩ : ∃ v, wb.heap.size = v := ⟨_, rfl⟩
          rw [hg12] at X5
          replace j0 := cell_on bx j0
          replace j1 := cell_on bx j1
          replace j2 := cell_on bx j2
          replace j3 := cell_on bx j3
          replace j4 := cell_on bx j4
          clear bx
          go_upto_region 17 with fail
          clear hW5 hg12
          obtain ⟨W6, hW6⟩ : ∃ W, W5.alloc (.cells #[.int .i64 b, .int .i64 ix, .int .i64 rl, .int .i64 dl, .int .i64 lf] 39) = W := ⟨_, rfl⟩
          have bx := wbox W5 (.cells #[.int .i64 b, .int .i64 ix, .int .i64 rl, .int .i64 dl, .int .i64 lf] 39)
          rw [hW6] at bx
          have S6 := Lib.hid (S5.out.below bx)
          have N6 := Lib.hid (N5.out.below bx)
          have X6 := Lib.hid (X5.out.below bx)
          have Y6 := Lib.hid (show Blk W6 39 W5.heap.size #[.int .i64 b, .int .i64 ix, .int .i64 rl, .int .i64 dl, .int .i64 lf] by rw [← hW6]; exact Blk.new _ _ _)
          clear bx
          go_upto_region 18 with fail
          obtain ⟨g14, hg14⟩ : ∃ v, W5.heap.size = v := ⟨_, rfl⟩
          rw [hg14] at Y6 ⊢
          clear hW6 hg14 j0 j1 j2 j3 j4
          have v0 := X6.out.cell 0
          have v1 := X6.out.cell 1
          have v2 := X6.out.cell 2
          have v3 := X6.out.cell 3
          have v4 := X6.out.cell 4
          have y0 := Y6.out.cell 0
          have y1 := Y6.out.cell 1
          have y2 := Y6.out.cell 2
          have y3 := Y6.out.cell 3
          have y4 := Y6.out.cell 4
          have v9 := C9.out _ N6.out
          have v9f := N6.out.free b
          simp at v0 v1 v2 v3 v4 y0 y1 y2 y3 y4
          have c1 : (b : Int) < (lm : Int) := by omega
          have c2 : decide ((b : Int) ≥ (lm : Int)) = false := by simp; omega
          have c3 : decide ((b : Int) < 0) = false := by simp
          have c4 : decide (rl > nx) = false := by simp; omega
          have c7 : 0 ≤ (b : Int) := by omega
          have c8 : (b : Int) < 8 := by omega
          have c9 : ¬ (lm : Int) ≤ (b : Int) := by omega
          have w1' : IntKind.i64.wrap (lf - 1) = lf - 1 := IntWalk.i64_in _ (by omega)
          have w2' : IntKind.i64.wrap (ix + 1) = ix + 1 := IntWalk.i64_in _ (by omega)
          go_quiet (fail)
          all_goals
            by_cases lz : lf - 1 = 0
            · have t6 : (lf - 1 == 0) = true := by simp [lz]
              have E9 := Lib.hid (show ix' = ix + 1 by rw [IXB.out, if_pos lz])
              rw [E9.out] at IXO
              go_wp2
              have BD := Lib.hid (show Below W6.heap.size W6 (W6.drewN nq) from below_drewN W6 nq)
              go_roundw
              case rel => exact ⟨nx, i + 1, grantS s nx, rfl, by go_num, by omega, nx0, nx1, Int.le_of_eq LS.out, SN.out, CT.out, CI.out, (S6.out.below BD.out).alone ((Keeps.refl (fun k => k = g9) _).set (.inl rfl) _ _) NE.out AM.out NL.out, by rw [← IXO.out]; exact (N6.out.below BD.out).set_ b _⟩
              case measure => simp [intOf]; omega
            · have t6 : (lf - 1 == 0) = false := by simp [lz]
              have BD := Lib.hid (show Below W6.heap.size W6 (W6.drewN nq) from below_drewN W6 nq)
              go_wp2
              go_roundw
              case rel => exact ⟨nx, i + 1, grantS s nx, rfl, by go_num, by omega, nx0, nx1, Int.le_of_eq LS.out, SN.out, CT.out, CI.out, S6.out.below BD.out, by rw [IXE.out lz]; exact N6.out.below BD.out⟩
              case measure => simp [intOf]; omega
      · by_cases g1 : i < len2
        · have b1 : decide (i < len2) = true := by simp; omega
          have b1' : decide ((i : Int) < (len2 : Int)) = true := by simp; omega
          have b2 : decide ((i : Int) < 60) = false := by simp; omega
          have b3 : decide (i < 60) = false := by simp; omega
          go_wp2
          go_ret
          exact ⟨rfl, S.out.bel⟩
        · have b1 : decide (i < len2) = false := by simp; omega
          have b1' : decide ((i : Int) < (len2 : Int)) = false := by simp; omega
          go_wp2
          go_ret
          exact ⟨rfl, S.out.bel⟩
  · go_wp2_with fail
    refine (snew_no am lm cm qs 0 w2 RM.out E P er HV.out he).mono ?_
    rintro e w3 ⟨rfl, hb3⟩
    have B3 := Lib.hid (below_next B2.out hb3)
    clear hb3
    go_wp2
    go_ret
    exact ⟨rfl, B3.out⟩
end Go.Proofs.Ytnlgophgglgneaa
