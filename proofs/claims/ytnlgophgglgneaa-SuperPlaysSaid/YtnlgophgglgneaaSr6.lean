/-
  The document's own supertask: Jobs, Same: contracts.
-/
import Derived.Test.YtnlgophgglgneaaSrB
import Derived.Test.YtnlgophgglgneaaSzD
import Derived.BigQuiet
namespace Go.Proofs.Ytnlgophgglgneaa
open Go.RowKit

/-- while a job is put into a row -/
def InsAt (x : Jb) (js : List Jb) (k : Nat) (put : Bool) (nx : List Jb) : Prop := insJ x js = nx ++ (if put then js.drop k else insJ x (js.drop k))
theorem ins_zero (x : Jb) (js : List Jb) : InsAt x js 0 false [] := by unfold InsAt; simp
section
variable {x y : Jb} {js nx : List Jb} {k : Nat}
theorem dropJ_at (h : js[k]? = some y) : js.drop k = y :: js.drop (k + 1) := by
  obtain ⟨hk, e⟩ := List.getElem?_eq_some_iff.mp h
  rw [← e]
  exact List.drop_eq_getElem_cons hk
theorem ins_past (h : InsAt x js k true nx) (hy : js[k]? = some y) : InsAt x js (k + 1) true (nx ++ [y]) := by
  unfold InsAt at h ⊢
  rw [h, dropJ_at hy]
  simp
theorem ins_less (h : InsAt x js k false nx) (hy : js[k]? = some y) (hl : lessJ x y = true) : InsAt x js (k + 1) true ((nx ++ [x]) ++ [y]) := by
  unfold InsAt at h ⊢
  rw [h, dropJ_at hy, insJ, if_pos hl]
  simp
theorem ins_on (h : InsAt x js k false nx) (hy : js[k]? = some y) (hl : lessJ x y = false) : InsAt x js (k + 1) false (nx ++ [y]) := by
  unfold InsAt at h ⊢
  rw [h, dropJ_at hy]
  simp [insJ, hl]
theorem ins_done (h : InsAt x js k true nx) (hk : js.length ≤ k) : insJ x js = nx := by
  unfold InsAt at h
  rw [h, List.drop_eq_nil_of_le hk]
  simp
theorem ins_last (h : InsAt x js k false nx) (hk : js.length ≤ k) : insJ x js = nx ++ [x] := by
  unfold InsAt at h
  rw [h, List.drop_eq_nil_of_le hk]
  simp [insJ]
theorem insJ_len (x : Jb) (js : List Jb) : (insJ x js).length = js.length + 1 := (insJ_perm x js).length_eq
theorem ins_len {put : Bool} (h : InsAt x js k put nx) : nx.length ≤ js.length + 1 := by
  unfold InsAt at h
  have := insJ_len x js
  rw [h, List.length_append] at this
  omega
end
/-- a job of a row of jobs, in memory -/
theorem row_job {W : World} {aj : Option Addr} {n cap k : Nat} {js : List Jb} {p i rl d l : Int} (h : RowF W aj n cap 5 (js.map Jb.cs)) (hk : k < n) (e : js[k]? = some ⟨p, i, rl, d, l⟩) :
    ∃ b off, aj = some ⟨b, off, none⟩ ∧ W.cell? ⟨b, off + k * 5, none⟩ = some (.int .i64 p) ∧ W.cell? ⟨b, off + k * 5 + 1, none⟩ = some (.int .i64 i) ∧ W.cell? ⟨b, off + k * 5 + 2, none⟩ = some (.int .i64 rl) ∧ W.cell? ⟨b, off + k * 5 + 3, none⟩ = some (.int .i64 d) ∧ W.cell? ⟨b, off + k * 5 + 4, none⟩ = some (.int .i64 l) := by
  obtain ⟨b, off, e2, hc⟩ := h.2.2.2.2 k hk
  have er : (js.map Jb.cs).getD k [] = [.int .i64 p, .int .i64 i, .int .i64 rl, .int .i64 d, .int .i64 l] := by
    rw [List.getD_eq_getElem?_getD, List.getElem?_map, e]; rfl
  rw [er] at hc
  exact ⟨b, off, e2, hc 0 (by omega), hc 1 (by omega), hc 2 (by omega), hc 3 (by omega), hc 4 (by omega)⟩
theorem below_grown {B : Nat} {w W W' : World} {v : Value} {n : Nat} {xs : List Value} {T : TypeId} {sz : Nat} (hb : Below B w W) (h : W.ownsRow B T sz v n xs) (hB : B ≤ W.heap.size) (k : W.grownBy W' v.ownBlock) : Below B w W' :=
  hb.grown k hB (fun g hg => (h.lt g hg).1)
theorem r14same_any (a : Option Addr) (ca : Nat) (b : Option Addr) (cb : Nat) (js : List Jb) (w : World) (h : RowF w a js.length ca 5 (js.map Jb.cs)) (g : RowF w b js.length cb 5 (js.map Jb.cs)) :
    Calls Try.prog 18 #[.slice a js.length ca, .slice b js.length cb] w fun e w' => e = .returned (.bool true) ∧ Below w.heap.size w w' := by
  have H := Lib.hid h
  have G := Lib.hid g
  have ⟨k1, k2⟩ : js.length ≤ ca ∧ ca ≤ 9223372036854775807 := ⟨h.2.1, h.2.2.1⟩
  have JG := Lib.hid (show ∀ k, k < js.length → ∃ y, js[k]? = some y from fun k hk => ⟨_, List.getElem?_eq_getElem hk⟩)
  obtain ⟨m, hm⟩ : ∃ m, js.length = m := ⟨_, rfl⟩
  rw [hm] at H G k1 JG ⊢
  clear h g hm
  have t1 : ((m : Int) != (m : Int)) = false := by simp
  go_enter Try.func18, Try.ntmps18
  go_wp2
  go_loopw [5] (fun u wr => ∃ k : Nat, u = .int .i64 k ∧ k ≤ m ∧ Below w.heap.size w wr) (fun u _ => m - (intOf u).toNat)
  case atStart => exact ⟨0, rfl, by omega, Below.refl _ _⟩
  case round =>
    obtain ⟨k, rfl, km, hB⟩ := hrel
    have B := Lib.hid hB
    clear hB
    by_cases go : k < m
    · have b1 : decide (k < m) = true := by simp; omega
      have b2 : decide ((k : Int) < (m : Int)) = true := by simp; omega
      have j1 : (k : Int) < (m : Int) := by omega
      have j0 : 0 ≤ (k : Int) := by omega
      obtain ⟨⟨p, i, rl, d, l⟩, hy⟩ := JG.out k go
      obtain ⟨ba, oa, rfl, x0, x1, x2, x3, x4⟩ := row_job (H.out.below (wideJ js) B.out) go hy
      obtain ⟨bb, ob, rfl, y0, y1, y2, y3, y4⟩ := row_job (G.out.below (wideJ js) B.out) go hy
      clear hy
      have f0 : (p == p) = true := by simp
      have f1 : (i == i) = true := by simp
      have f2 : (rl == rl) = true := by simp
      have f3 : (d == d) = true := by simp
      have f4 : (l == l) = true := by simp
      go_upto_region 6 with fail
      go_quiet (fail)
      all_goals
        have BQ := Lib.hid (show Below w.heap.size w (wr.drewN nq) from ⟨B.out.os, B.out.tape, B.out.output, B.out.size, B.out.block⟩)
        go_wp2
        go_roundw
        case rel => exact ⟨k + 1, by go_num, by omega, BQ.out⟩
        case measure => simp [intOf]; omega
    · have b1 : decide (k < m) = false := by simp; omega
      have b2 : decide ((k : Int) < (m : Int)) = false := by simp; omega
      go_wp2
      go_ret
      exact ⟨rfl, B.out⟩
set_option maxRecDepth 20000 in
set_option maxHeartbeats 16000000 in
theorem r14jobs_any (r : Nat) (a : Option Addr) (len cap : Nat) (s : SS) (t : Int) (w : World) (h : RAt w r a len cap s) (hs : s.served ≤ 1000000) :
    Calls Try.prog 20 #[.pointer (some ⟨r, 0, none⟩), .int .i64 t] w (GivesJ w (jobsV s t)) := by
  have H := Lib.hid h
  have hl := h.len
  have n8 : s.n ≤ 8 := h.good.may.few
  have n1 : 1 ≤ s.n := h.good.may.some_
  have c0 := h.box.cell 0
  simp [rboxS] at c0
  cases m : mayS s t with
  | false =>
    have V := Lib.hid (jobsV_no m)
    have M := Lib.hid m
    have b1 : decide (0 < len) = true := by simp; omega
    have b2 : decide (0 < (len : Int)) = true := by simp; omega
    clear h m
    go_enter Try.func20, Try.ntmps20
    go_wp2_with fail
    refine (r14slot_any H.out t false M.out).mono ?_
    rintro e w1 ⟨rfl, rfl⟩
    go_wp2
    go_loopw [6, 7] (fun u v wr => u = .slice none 0 0 ∧ v = .int .i64 0 ∧ w = wr) (fun _ _ _ => 0)
    case atStart => exact ⟨rfl, rfl, rfl⟩
    case round =>
      obtain ⟨rfl, rfl, rfl⟩ := hrel
      go_wp2
      go_ret
      exact ⟨none, 0, by rw [V.out]; rfl, by rw [V.out]; exact RowF.nil, Below.refl _ _, Fresh.none⟩
  | true =>
    have V := Lib.hid (jobsV_yes m)
    have M := Lib.hid m
    have GD := Lib.hid h.good
    have ⟨m1, m2⟩ := may_is.mp m
    have al := h.good.al
    have ta : s.A ≤ t := by omega
    clear h m c0 m1 al
    go_enter Try.func20, Try.ntmps20
    go_wp2_with fail
    refine (r14slot_any H.out t true M.out).mono ?_
    rintro e w1 ⟨rfl, rfl⟩
    go_wp2
    go_loopw [6, 7] (fun u v wr => ∃ (i : Nat) (ao : Option Addr) (mo co : Nat), v = .int .i64 i ∧ i ≤ len ∧ u = .slice ao mo co ∧ (sortJ (jobsN s t i)).length = mo ∧ RowF wr ao mo co 5 ((sortJ (jobsN s t i)).map Jb.cs) ∧ Fresh w.heap.size ao ∧ Below w.heap.size w wr) (fun _ v _ => len - (intOf v).toNat)
    case atStart => exact ⟨0, none, 0, 0, rfl, by omega, rfl, rfl, RowF.nil, Fresh.none, Below.refl _ _⟩
    case round =>
      obtain ⟨i, ao, mo, co, rfl, i1, rfl, hmo, hrow, hfr, hB⟩ := hrel
      have B := Lib.hid hB
      have HR := Lib.hid (H.out.below hB)
      have RW := Lib.hid hrow
      have FR := Lib.hid hfr
      have MO := Lib.hid hmo
      clear hB hrow hfr hmo
      have c0 := HR.out.box.cell 0
      simp [rboxS] at c0
      by_cases go : i < len
      · have b1 : decide (i < len) = true := by simp; omega
        have b2 : decide ((i : Int) < (len : Int)) = true := by simp; omega
        have i0 : 0 ≤ (i : Int) := by omega
        have i2 : (i : Int) < (len : Int) := by omega
        have i3 : (i : Int) < 8 := by omega
        have hi : i < s.n := by omega
        have HI := Lib.hid hi
        have i8 : i < 8 := by omega
        obtain ⟨ba, oa, rfl, hx, hy⟩ := HR.out.part hi
        have dc : wr.cell? ⟨r, 3 + i, none⟩ = some (.int .i64 (s.D i)) := by rw [HR.out.box.cell]; exact rbox_done i8
        have ⟨y1, y2, y3⟩ := GD.out.mb hi
        have d0 := GD.out.d0 i
        have d1 := GD.out.d1 i
        have ⟨x1, x2, _, _⟩ := ix_bd GD.out hi
        have NL := Lib.hid (jobsN_len s t i)
        obtain ⟨rel, hrel⟩ : ∃ v, (t - s.A) / s.P i + 1 = v := ⟨_, rfl⟩
        obtain ⟨ix, hix⟩ : ∃ v, ixS s i = v := ⟨_, rfl⟩
        have CN := Lib.hid (show cntS s t i = min 1000 (rel - ix).toNat by unfold cntS; rw [hrel, hix])
        have REL := Lib.hid hrel
        have IX := Lib.hid hix
        obtain ⟨E, hE⟩ : ∃ E, s.E i = E := ⟨_, rfl⟩
        obtain ⟨D, hD⟩ : ∃ D, s.D i = D := ⟨_, rfl⟩
        have q2 : D.tdiv E = ix := by rw [← hD, ← hE, ← hix, Int.tdiv_eq_ediv_of_nonneg d0]; rfl
        rw [hE] at hx y1 y2
        rw [hD] at dc d0 d1 x2
        rw [hix] at x1 x2
        have q3 : ¬ E = 0 := by omega
        have w2 : IntKind.i64.wrap ix = ix := IntWalk.i64_in _ (by omega)
        have w3 : IntKind.i64.wrap (ix + 1000) = ix + 1000 := IntWalk.i64_in _ (by omega)
        clear hE hD hix hrel
        go_upto_region 6 with fail
        go_quiet (fail)
        all_goals
          clear w2 q2 hx hy dc c0
          have BQ := Lib.hid (show Below w.heap.size w (wr.drewN nq) from ⟨B.out.os, B.out.tape, B.out.output, B.out.size, B.out.block⟩)
          have RQ := Lib.hid (show RowF (wr.drewN nq) ao mo co 5 ((sortJ (jobsN s t i)).map Jb.cs) from RW.out)
          obtain ⟨wq, hwq⟩ : ∃ v, wr.drewN nq = v := ⟨_, rfl⟩
          rw [hwq] at BQ RQ ⊢
          clear hwq B RW HR
          go_wp2
          go_loopw [6, 9] (fun u v wr => ∃ (k : Nat) (ao : Option Addr) (mo co : Nat), v = .int .i64 (ix + k) ∧ k ≤ cntS s t i ∧ u = .slice ao mo co ∧ (sortJ (jobsN s t i ++ partJ s i k)).length = mo ∧ RowF wr ao mo co 5 ((sortJ (jobsN s t i ++ partJ s i k)).map Jb.cs) ∧ Fresh w.heap.size ao ∧ Below w.heap.size w wr) (fun _ v _ => (ix + 1000 - intOf v).toNat)
          case atStart => exact ⟨0, ao, mo, co, by simp, Nat.zero_le _, rfl, by rw [show partJ s i 0 = [] from rfl, List.append_nil]; exact MO.out, by rw [show partJ s i 0 = [] from rfl, List.append_nil]; exact RQ.out, FR.out, BQ.out⟩
          case round =>
            clear MO RQ FR BQ
            obtain ⟨k, ao, mo, co, rfl, kc, rfl, hmo, hrow, hfr, hB⟩ := hrel
            have B := Lib.hid hB
            have HR := Lib.hid (H.out.below hB)
            have RW := Lib.hid hrow
            have FR := Lib.hid hfr
            have MO := Lib.hid hmo
            have ML : mo ≤ 9000 := by have h1 := NL.out; rw [← hmo, sortJ_len, List.length_append, partJ_len]; have := cnt_le s t i; omega
            have kM : k ≤ 1000 := by have := cnt_le s t i; omega
            clear hB hrow hfr hmo
            go_wp2_with fail
            refine (r14released_any HR.out i HI.out t ta m2 rel REL.out).mono ?_
            rintro e w5 ⟨rfl, n5, hn5⟩
            have B5 := Lib.hid (show Below w.heap.size w w5 by rw [hn5]; exact ⟨B.out.os, B.out.tape, B.out.output, B.out.size, B.out.block⟩)
            have R5 := Lib.hid (show RowF w5 ao mo co 5 ((sortJ (jobsN s t i ++ partJ s i k)).map Jb.cs) by rw [hn5]; exact RW.out)
            have H5 := Lib.hid (H.out.below B5.out)
            clear hn5 B HR RW
            by_cases ck : k < cntS s t i
            · have g1 : ix + k < rel := by have := CN.out; omega
              have g2 : k < 1000 := by have := CN.out; omega
              have b3 : decide (ix + (k : Int) < rel) = true := by simp; omega
              have b4 : decide (ix + (k : Int) < ix + 1000) = true := by simp; omega
              obtain ⟨J, hJ⟩ : ∃ J, jobS s i k = J := ⟨_, rfl⟩
              have HJ := Lib.hid hJ
              have PS := Lib.hid (show sortJ (jobsN s t i ++ partJ s i (k + 1)) = insJ J (sortJ (jobsN s t i ++ partJ s i k)) by rw [partJ_succ, ← List.append_assoc, sortJ_snoc, hJ])
              obtain ⟨js, hjs⟩ : ∃ l, sortJ (jobsN s t i ++ partJ s i k) = l := ⟨_, rfl⟩
              rw [hjs] at PS R5 MO
              clear hJ hjs
              have HIX := Lib.hid (show ixS s i + (k : Int) = ix + k by rw [IX.out])
              go_wp2_with fail
              refine (r14job_any r (some ⟨ba, oa, none⟩) len cap s i k w5 H5.out HI.out (by omega) hs (ix + k) HIX.out J HJ.out).mono ?_
              rintro e w6 ⟨rfl, hb6⟩
              obtain ⟨p1, i1', r1, d1', l1⟩ := J
              unfold Jb.v
              obtain ⟨W7, hW7⟩ : ∃ W, w6.alloc (.cells #[.int .i64 p1, .int .i64 i1', .int .i64 r1, .int .i64 d1', .int .i64 l1] 39) = W := ⟨_, rfl⟩
              have bx := below_next hb6 (wbox w6 (.cells #[.int .i64 p1, .int .i64 i1', .int .i64 r1, .int .i64 d1', .int .i64 l1] 39))
              rw [hW7] at bx
              have B7 := Lib.hid (below_next B5.out bx)
              have R7 := Lib.hid (R5.out.below (wideJ _) bx)
              have K7 := Lib.hid (show Blk W7 39 w6.heap.size #[.int .i64 p1, .int .i64 i1', .int .i64 r1, .int .i64 d1', .int .i64 l1] by rw [← hW7]; exact Blk.new _ _ _)
              obtain ⟨g10, hg10⟩ : ∃ v, w6.heap.size = v := ⟨_, rfl⟩
              rw [hg10] at K7
              clear bx hb6
              go_wp2
              clear hW7 hg10 B5 R5 H5
              go_loopw [11, 12, 13] (fun x y z wr => ∃ (k3 : Nat) (put : Bool) (nx : List Jb), z = .int .i64 k3 ∧ y = .bool put ∧ k3 ≤ mo ∧ wr.ownsRow W7.heap.size 39 5 x nx.length (nx.map Jb.cs).flatten ∧ InsAt ⟨p1, i1', r1, d1', l1⟩ js k3 put nx ∧ Below W7.heap.size W7 wr) (fun _ _ z _ => mo - (intOf z).toNat)
              case atStart => exact ⟨0, false, [], rfl, rfl, by omega, World.ownsRow_nil _ _ _ _, ins_zero _ _, Below.refl _ _⟩
              case round =>
                obtain ⟨k3, put, nx, rfl, rfl, k3m, hO, hI, hB⟩ := hrel
                have O := Lib.hid hO
                have I := Lib.hid hI
                have B := Lib.hid hB
                have KW := Lib.hid (K7.out.below hB)
                have RW := Lib.hid (R7.out.below (wideJ _) hB)
                have NX := Lib.hid (show nx.length ≤ 9001 by have h1 := ins_len hI; have := MO.out; omega)
                clear hO hI hB
                have z0 := KW.out.cell 0
                have z1 := KW.out.cell 1
                have z2 := KW.out.cell 2
                have z3 := KW.out.cell 3
                have z4 := KW.out.cell 4
                simp at z0 z1 z2 z3 z4
                by_cases g3 : k3 < mo
                · have b5 : decide (k3 < mo) = true := by simp; omega
                  have b6 : decide ((k3 : Int) < (mo : Int)) = true := by simp; omega
                  have j1 : (k3 : Int) < (mo : Int) := by omega
                  have j0 : 0 ≤ (k3 : Int) := by omega
                  obtain ⟨⟨p, q, rl, d, l⟩, hy⟩ : ∃ y, js[k3]? = some y := ⟨_, List.getElem?_eq_getElem (by have := MO.out; omega)⟩
                  obtain ⟨bo, oo, rfl, v0, v1, v2, v3, v4⟩ := row_job RW.out g3 hy
                  have HY := Lib.hid hy
                  clear hy
                  cases put with
                  | true =>
                    have IN := Lib.hid (ins_past I.out HY.out)
                    go_upto_region 16 with fail
                    go_quiet (fail)
                    all_goals
                      have ON := Lib.hid (show (wr.drewN nq).ownsRow W7.heap.size 39 5 u11 nx.length (nx.map Jb.cs).flatten from owns_below O.out (below_drewN wr nq))
                      have BN := Lib.hid (show Below W7.heap.size W7 (wr.drewN nq) from ⟨B.out.os, B.out.tape, B.out.output, B.out.size, B.out.block⟩)
                      obtain ⟨W8, hW8⟩ : ∃ W, (wr.drewN nq).alloc (.cells #[.int .i64 p, .int .i64 q, .int .i64 rl, .int .i64 d, .int .i64 l] 39) = W := ⟨_, rfl⟩
                      have O8 := Lib.hid (show W8.ownsRow W7.heap.size 39 5 u11 nx.length (nx.map Jb.cs).flatten by rw [← hW8]; exact owns_below ON.out (wbox _ _))
                      have B8 := Lib.hid (show Below W7.heap.size W7 W8 by rw [← hW8]; exact BN.out.alloc BN.out.size _)
                      have N8 := Lib.hid (show W8.heap[wr.heap.size]? = some (.cells (Jb.arr ⟨p, q, rl, d, l⟩) 39 (0, 0)) by rw [← hW8]; exact heap_alloc_new (wr.drewN nq) _)
                      go_wp2_with (at_builtin; refine app_job rfl _ _ rfl W7.heap.size u11 nx rfl O8.out wr.heap.size ⟨p, q, rl, d, l⟩ rfl N8.out B8.out.size (by have := NX.out; omega) ?_; intro x2 w9 hown2 hgrow2; have HO2 := Lib.hid hown2; have HG2 := Lib.hid hgrow2; clear hown2 hgrow2)
                      go_roundw
                      case rel => exact ⟨k3 + 1, _, _, by go_num, rfl, by omega, HO2.out, IN.out, below_grown B8.out O8.out B8.out.size HG2.out⟩
                      case measure => simp [intOf]; omega
                  | false =>
                    by_cases e1 : d1' < d
                    · have f1 : decide (d1' < d) = true := by simp; omega
                      have IN := Lib.hid (ins_less I.out HY.out (less_is.mpr (.inl e1)))
                      go_upto_region 16 with fail
                      go_quiet (fail)
                      all_goals
                        have ON := Lib.hid (show (wr.drewN nq).ownsRow W7.heap.size 39 5 u11 nx.length (nx.map Jb.cs).flatten from owns_below O.out (below_drewN wr nq))
                        have BN := Lib.hid (show Below W7.heap.size W7 (wr.drewN nq) from ⟨B.out.os, B.out.tape, B.out.output, B.out.size, B.out.block⟩)
                        obtain ⟨W8, hW8⟩ : ∃ W, (wr.drewN nq).alloc (.cells #[.int .i64 p1, .int .i64 i1', .int .i64 r1, .int .i64 d1', .int .i64 l1] 39) = W := ⟨_, rfl⟩
                        have O8 := Lib.hid (show W8.ownsRow W7.heap.size 39 5 u11 nx.length (nx.map Jb.cs).flatten by rw [← hW8]; exact owns_below ON.out (wbox _ _))
                        have B8 := Lib.hid (show Below W7.heap.size W7 W8 by rw [← hW8]; exact BN.out.alloc BN.out.size _)
                        have N8 := Lib.hid (show W8.heap[wr.heap.size]? = some (.cells (Jb.arr ⟨p1, i1', r1, d1', l1⟩) 39 (0, 0)) by rw [← hW8]; exact heap_alloc_new (wr.drewN nq) _)
                        have LX := Lib.hid (show (nx ++ [(⟨p1, i1', r1, d1', l1⟩ : Jb)]).length ≤ 100000 by rw [List.length_append]; have := NX.out; simp; omega)
                        go_wp2_with (first
                          | (at_builtin; refine app_job rfl _ _ rfl W7.heap.size u11 nx rfl O8.out wr.heap.size ⟨p1, i1', r1, d1', l1⟩ rfl N8.out B8.out.size (by have := NX.out; omega) ?_; intro x2 w9 hown2 hgrow2; have HO2 := Lib.hid hown2; have B9 := Lib.hid (below_grown B8.out O8.out B8.out.size hgrow2); have RW9 := Lib.hid (R7.out.below (wideJ _) B9.out); clear hown2 hgrow2 hW8 v0 v1 v2 v3 v4; obtain ⟨bo2, oo2, eo, v0, v1, v2, v3, v4⟩ := row_job RW9.out g3 HY.out; obtain ⟨rfl, rfl⟩ : bo = bo2 ∧ oo = oo2 := by simpa using eo
                             clear eo; obtain ⟨W10, hW10⟩ : ∃ W, w9.alloc (.cells #[.int .i64 p, .int .i64 q, .int .i64 rl, .int .i64 d, .int .i64 l] 39) = W := ⟨_, rfl⟩; have O10 := Lib.hid (show W10.ownsRow W7.heap.size 39 5 x2 (nx ++ [(⟨p1, i1', r1, d1', l1⟩ : Jb)]).length ((nx ++ [(⟨p1, i1', r1, d1', l1⟩ : Jb)]).map Jb.cs).flatten by rw [← hW10]; exact owns_below HO2.out (wbox _ _)); have B10 := Lib.hid (show Below W7.heap.size W7 W10 by rw [← hW10]; exact B9.out.alloc B9.out.size _); have N10 := Lib.hid (show W10.heap[w9.heap.size]? = some (.cells (Jb.arr ⟨p, q, rl, d, l⟩) 39 (0, 0)) by rw [← hW10]; exact heap_alloc_new _ _))
                          | (at_builtin; refine app_job rfl _ _ rfl W7.heap.size x2 (nx ++ [(⟨p1, i1', r1, d1', l1⟩ : Jb)]) rfl O10.out w9.heap.size ⟨p, q, rl, d, l⟩ rfl N10.out B10.out.size LX.out ?_; intro x3 w11 hown3 hgrow3; have HO3 := Lib.hid hown3; have HG3 := Lib.hid hgrow3; clear hown3 hgrow3))
                        go_roundw
                        case rel => exact ⟨k3 + 1, _, _, by go_num, rfl, by omega, HO3.out, IN.out, below_grown B10.out O10.out B10.out.size HG3.out⟩
                        case measure => simp [intOf]; omega
                    · have f1 : decide (d1' < d) = false := by simp; omega
                      by_cases e2 : d1' = d
                      · have f2 : (d1' == d) = true := by simp [e2]
                        by_cases e3 : p1 < p
                        · have f3 : decide (p1 < p) = true := by simp; omega
                          have IN := Lib.hid (ins_less I.out HY.out (less_is.mpr (.inr ⟨e2, e3⟩)))
                          clear e2
                          go_upto_region 16 with fail
                          go_quiet (fail)
                          all_goals
                            have ON := Lib.hid (show (wr.drewN nq).ownsRow W7.heap.size 39 5 u11 nx.length (nx.map Jb.cs).flatten from owns_below O.out (below_drewN wr nq))
                            have BN := Lib.hid (show Below W7.heap.size W7 (wr.drewN nq) from ⟨B.out.os, B.out.tape, B.out.output, B.out.size, B.out.block⟩)
                            obtain ⟨W8, hW8⟩ : ∃ W, (wr.drewN nq).alloc (.cells #[.int .i64 p1, .int .i64 i1', .int .i64 r1, .int .i64 d1', .int .i64 l1] 39) = W := ⟨_, rfl⟩
                            have O8 := Lib.hid (show W8.ownsRow W7.heap.size 39 5 u11 nx.length (nx.map Jb.cs).flatten by rw [← hW8]; exact owns_below ON.out (wbox _ _))
                            have B8 := Lib.hid (show Below W7.heap.size W7 W8 by rw [← hW8]; exact BN.out.alloc BN.out.size _)
                            have N8 := Lib.hid (show W8.heap[wr.heap.size]? = some (.cells (Jb.arr ⟨p1, i1', r1, d1', l1⟩) 39 (0, 0)) by rw [← hW8]; exact heap_alloc_new (wr.drewN nq) _)
                            have LX := Lib.hid (show (nx ++ [(⟨p1, i1', r1, d1', l1⟩ : Jb)]).length ≤ 100000 by rw [List.length_append]; have := NX.out; simp; omega)
                            go_wp2_with (first
                              | (at_builtin; refine app_job rfl _ _ rfl W7.heap.size u11 nx rfl O8.out wr.heap.size ⟨p1, i1', r1, d1', l1⟩ rfl N8.out B8.out.size (by have := NX.out; omega) ?_; intro x2 w9 hown2 hgrow2; have HO2 := Lib.hid hown2; have B9 := Lib.hid (below_grown B8.out O8.out B8.out.size hgrow2); have RW9 := Lib.hid (R7.out.below (wideJ _) B9.out); clear hown2 hgrow2 hW8 v0 v1 v2 v3 v4; obtain ⟨bo2, oo2, eo, v0, v1, v2, v3, v4⟩ := row_job RW9.out g3 HY.out; obtain ⟨rfl, rfl⟩ : bo = bo2 ∧ oo = oo2 := by simpa using eo
                                 clear eo; obtain ⟨W10, hW10⟩ : ∃ W, w9.alloc (.cells #[.int .i64 p, .int .i64 q, .int .i64 rl, .int .i64 d, .int .i64 l] 39) = W := ⟨_, rfl⟩; have O10 := Lib.hid (show W10.ownsRow W7.heap.size 39 5 x2 (nx ++ [(⟨p1, i1', r1, d1', l1⟩ : Jb)]).length ((nx ++ [(⟨p1, i1', r1, d1', l1⟩ : Jb)]).map Jb.cs).flatten by rw [← hW10]; exact owns_below HO2.out (wbox _ _)); have B10 := Lib.hid (show Below W7.heap.size W7 W10 by rw [← hW10]; exact B9.out.alloc B9.out.size _); have N10 := Lib.hid (show W10.heap[w9.heap.size]? = some (.cells (Jb.arr ⟨p, q, rl, d, l⟩) 39 (0, 0)) by rw [← hW10]; exact heap_alloc_new _ _))
                              | (at_builtin; refine app_job rfl _ _ rfl W7.heap.size x2 (nx ++ [(⟨p1, i1', r1, d1', l1⟩ : Jb)]) rfl O10.out w9.heap.size ⟨p, q, rl, d, l⟩ rfl N10.out B10.out.size LX.out ?_; intro x3 w11 hown3 hgrow3; have HO3 := Lib.hid hown3; have HG3 := Lib.hid hgrow3; clear hown3 hgrow3))
                            go_roundw
                            case rel => exact ⟨k3 + 1, _, _, by go_num, rfl, by omega, HO3.out, IN.out, below_grown B10.out O10.out B10.out.size HG3.out⟩
                            case measure => simp [intOf]; omega
                        · have f3 : decide (p1 < p) = false := by simp; omega
                          have IN := Lib.hid (ins_on I.out HY.out (less_no.mpr (fun z => by rcases z with z | ⟨_, z⟩; exact e1 z; exact e3 z)))
                          clear e2
                          go_upto_region 16 with fail
                          go_quiet (fail)
                          all_goals
                            have ON := Lib.hid (show (wr.drewN nq).ownsRow W7.heap.size 39 5 u11 nx.length (nx.map Jb.cs).flatten from owns_below O.out (below_drewN wr nq))
                            have BN := Lib.hid (show Below W7.heap.size W7 (wr.drewN nq) from ⟨B.out.os, B.out.tape, B.out.output, B.out.size, B.out.block⟩)
                            obtain ⟨W8, hW8⟩ : ∃ W, (wr.drewN nq).alloc (.cells #[.int .i64 p, .int .i64 q, .int .i64 rl, .int .i64 d, .int .i64 l] 39) = W := ⟨_, rfl⟩
                            have O8 := Lib.hid (show W8.ownsRow W7.heap.size 39 5 u11 nx.length (nx.map Jb.cs).flatten by rw [← hW8]; exact owns_below ON.out (wbox _ _))
                            have B8 := Lib.hid (show Below W7.heap.size W7 W8 by rw [← hW8]; exact BN.out.alloc BN.out.size _)
                            have N8 := Lib.hid (show W8.heap[wr.heap.size]? = some (.cells (Jb.arr ⟨p, q, rl, d, l⟩) 39 (0, 0)) by rw [← hW8]; exact heap_alloc_new (wr.drewN nq) _)
                            go_wp2_with (at_builtin; refine app_job rfl _ _ rfl W7.heap.size u11 nx rfl O8.out wr.heap.size ⟨p, q, rl, d, l⟩ rfl N8.out B8.out.size (by have := NX.out; omega) ?_; intro x2 w9 hown2 hgrow2; have HO2 := Lib.hid hown2; have HG2 := Lib.hid hgrow2; clear hown2 hgrow2)
                            go_roundw
                            case rel => exact ⟨k3 + 1, _, _, by go_num, rfl, by omega, HO2.out, IN.out, below_grown B8.out O8.out B8.out.size HG2.out⟩
                            case measure => simp [intOf]; omega
                      · have f2 : (d1' == d) = false := by simp [e2]
                        have IN := Lib.hid (ins_on I.out HY.out (less_no.mpr (fun z => by rcases z with z | ⟨z, _⟩; exact e1 z; exact e2 z)))
                        go_upto_region 16 with fail
                        go_quiet (fail)
                        all_goals
                          have ON := Lib.hid (show (wr.drewN nq).ownsRow W7.heap.size 39 5 u11 nx.length (nx.map Jb.cs).flatten from owns_below O.out (below_drewN wr nq))
                          have BN := Lib.hid (show Below W7.heap.size W7 (wr.drewN nq) from ⟨B.out.os, B.out.tape, B.out.output, B.out.size, B.out.block⟩)
                          obtain ⟨W8, hW8⟩ : ∃ W, (wr.drewN nq).alloc (.cells #[.int .i64 p, .int .i64 q, .int .i64 rl, .int .i64 d, .int .i64 l] 39) = W := ⟨_, rfl⟩
                          have O8 := Lib.hid (show W8.ownsRow W7.heap.size 39 5 u11 nx.length (nx.map Jb.cs).flatten by rw [← hW8]; exact owns_below ON.out (wbox _ _))
                          have B8 := Lib.hid (show Below W7.heap.size W7 W8 by rw [← hW8]; exact BN.out.alloc BN.out.size _)
                          have N8 := Lib.hid (show W8.heap[wr.heap.size]? = some (.cells (Jb.arr ⟨p, q, rl, d, l⟩) 39 (0, 0)) by rw [← hW8]; exact heap_alloc_new (wr.drewN nq) _)
                          go_wp2_with (at_builtin; refine app_job rfl _ _ rfl W7.heap.size u11 nx rfl O8.out wr.heap.size ⟨p, q, rl, d, l⟩ rfl N8.out B8.out.size (by have := NX.out; omega) ?_; intro x2 w9 hown2 hgrow2; have HO2 := Lib.hid hown2; have HG2 := Lib.hid hgrow2; clear hown2 hgrow2)
                          go_roundw
                          case rel => exact ⟨k3 + 1, _, _, by go_num, rfl, by omega, HO2.out, IN.out, below_grown B8.out O8.out B8.out.size HG2.out⟩
                          case measure => simp [intOf]; omega
                · have b5 : decide (k3 < mo) = false := by simp; omega
                  have b6 : decide ((k3 : Int) < (mo : Int)) = false := by simp; omega
                  have LE := Lib.hid (show js.length ≤ k3 by have := MO.out; omega)
                  cases put with
                  | true =>
                    have IE := Lib.hid (ins_done I.out LE.out)
                    have EN := Lib.hid (show sortJ (jobsN s t i ++ partJ s i (k + 1)) = nx by rw [PS.out, IE.out])
                    obtain ⟨an, cn, rfl, hr, hf⟩ := rowF_of_owns (wideJ nx) O.out (by rw [List.length_map])
                    have HRW := Lib.hid hr
                    have HF := Lib.hid hf
                    clear hr hf
                    go_wp2
                    go_roundw
                    case rel => exact ⟨k + 1, an, nx.length, cn, by go_num, by omega, rfl, by rw [EN.out], by rw [EN.out]; exact HRW.out, HF.out.mono B7.out.size, below_next B7.out B.out⟩
                    case measure => simp [intOf]; omega
                  | false =>
                    have IE := Lib.hid (ins_last I.out LE.out)
                    have EN := Lib.hid (show sortJ (jobsN s t i ++ partJ s i (k + 1)) = nx ++ [⟨p1, i1', r1, d1', l1⟩] by rw [PS.out, IE.out])
                    obtain ⟨W8, hW8⟩ : ∃ W, wr.alloc (.cells #[.int .i64 p1, .int .i64 i1', .int .i64 r1, .int .i64 d1', .int .i64 l1] 39) = W := ⟨_, rfl⟩
                    have O8 := Lib.hid (show W8.ownsRow W7.heap.size 39 5 u11 nx.length (nx.map Jb.cs).flatten by rw [← hW8]; exact owns_below O.out (wbox _ _))
                    have B8 := Lib.hid (show Below W7.heap.size W7 W8 by rw [← hW8]; exact B.out.alloc B.out.size _)
                    have N8 := Lib.hid (show W8.heap[wr.heap.size]? = some (.cells (Jb.arr ⟨p1, i1', r1, d1', l1⟩) 39 (0, 0)) by rw [← hW8]; exact heap_alloc_new _ _)
                    go_wp2_with (at_builtin; refine app_job rfl _ _ rfl W7.heap.size u11 nx rfl O8.out wr.heap.size ⟨p1, i1', r1, d1', l1⟩ rfl N8.out B8.out.size (by have := NX.out; omega) ?_; intro x2 w9 hown2 hgrow2; have HO2 := Lib.hid hown2; have HG2 := Lib.hid hgrow2; clear hown2 hgrow2)
                    obtain ⟨an, cn, rfl, hr, hf⟩ := rowF_of_owns (wideJ _) HO2.out (by rw [List.length_map])
                    have HRW := Lib.hid hr
                    have HF := Lib.hid hf
                    clear hr hf
                    go_roundw
                    case rel => exact ⟨k + 1, an, _, cn, by go_num, by omega, rfl, by rw [EN.out], by rw [EN.out]; exact HRW.out, HF.out.mono B7.out.size, below_next B7.out (below_grown B8.out O8.out B8.out.size HG2.out)⟩
                    case measure => simp [intOf]; omega
            · have kE : k = cntS s t i := by omega
              have EN := Lib.hid (show jobsN s t i ++ partJ s i k = jobsN s t (i + 1) by rw [kE]; rfl)
              rw [EN.out] at R5 MO
              by_cases g1 : ix + k < rel
              · have b3 : decide (ix + (k : Int) < rel) = true := by simp; omega
                have k1 : k = 1000 := by have := CN.out; omega
                have b4 : decide (ix + (k : Int) < ix + 1000) = false := by simp; omega
                clear kE
                go_wp2
                go_roundw
                case rel => exact ⟨i + 1, ao, mo, co, by go_num, by omega, rfl, MO.out, R5.out, FR.out, B5.out⟩
                case measure => simp [intOf]; omega
              · have b3 : decide (ix + (k : Int) < rel) = false := by simp; omega
                clear kE
                go_wp2
                go_roundw
                case rel => exact ⟨i + 1, ao, mo, co, by go_num, by omega, rfl, MO.out, R5.out, FR.out, B5.out⟩
                case measure => simp [intOf]; omega
      · have b1 : decide (i < len) = false := by simp; omega
        have b2 : decide ((i : Int) < (len : Int)) = false := by simp; omega
        have EI : i = s.n := by omega
        rw [EI] at MO RW
        have EV := Lib.hid (show sortJ (jobsN s t s.n) = jobsV s t from V.out.symm)
        rw [EV.out] at MO RW
        clear EI
        go_wp2
        go_ret
        have mo' := MO.out
        subst mo'
        exact ⟨ao, co, rfl, RW.out, B.out, FR.out⟩
end Go.Proofs.Ytnlgophgglgneaa
