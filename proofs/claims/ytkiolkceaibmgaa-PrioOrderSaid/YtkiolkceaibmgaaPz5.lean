/-
  Package prio: Pick, and Rank with what it looks for by: contracts.
-/
import Derived.Test.YtkiolkceaibmgaaPz4
namespace Go.Proofs.Ytkiolkceaibmgaa
open Go.RowKit

theorem ppick_any (a : Option Addr) (len cap : Nat) (es : List Ent) (m : Int) (w : World) (h : RowE w a len cap es) (hl : len ≤ 20) :
    Calls Try.prog 14 #[.slice a len cap, .int .i64 m] w (GivesE w (pickE es m)) := by
  have H := Lib.hid h
  have LN := Lib.hid h.len
  clear h
  by_cases z : m < 1
  · have t1 : decide (m < 1) = true := by simp; omega
    have V := Lib.hid (show pickE es m = [] by unfold pickE; rw [if_pos z])
    go_enter Try.func14, Try.ntmps14
    go_wp2
    go_ret
    exact ⟨_, _, _, rfl, by rw [V.out]; exact RowE.nil, Below.refl _ _, Fresh.none⟩
  · have t1 : decide (m < 1) = false := by simp; omega
    obtain ⟨n, rfl⟩ : ∃ n : Nat, m = (n : Int) := ⟨m.toNat, by omega⟩
    have V := Lib.hid (show pickE es n = (sortE es).take n by unfold pickE; rw [if_neg z]; rfl)
    go_enter Try.func14, Try.ntmps14
    go_wp2_with fail
    refine (psort_any a len cap es w H.out hl).mono ?_
    rintro e w1 ⟨ao, lo, co, rfl, hro, hb, hfr⟩
    have RO := Lib.hid hro
    have LO := Lib.hid hro.len
    have ⟨c1, c2⟩ := hro.cap_le
    have B := Lib.hid hb
    have FR := Lib.hid hfr
    clear hro hb hfr
    by_cases g : n ≤ lo
    · have t2 : decide (n ≤ lo) = true := by simp; omega
      have t3 : decide ((n : Int) ≤ (lo : Int)) = true := by simp; omega
      have d1 : (n : Int) ≤ (co : Int) := by omega
      have d2 : 0 ≤ (n : Int) := by omega
      have d3 : n ≤ co := by omega
      have d4 : min (n : Int) (lo : Int) = (n : Int) := by omega
      obtain ⟨x, hx, _, _⟩ := getE (es := sortE es) (i := 0) (by rw [LO.out]; omega)
      obtain ⟨bo, oo, rfl, _⟩ := RO.out.at hx
      have n0 : ¬ co = 0 := by omega
      clear hx
      go_wp2
      go_ret
      exact ⟨_, _, _, rfl, by rw [V.out]; exact RO.out.take (by omega), B.out, FR.out⟩
    · have t2 : decide (n ≤ lo) = false := by simp; omega
      have t3 : decide ((n : Int) ≤ (lo : Int)) = false := by simp; omega
      have d4 : min (n : Int) (lo : Int) = (lo : Int) := by omega
      have d1 : (lo : Int) ≤ (co : Int) := by omega
      have d2 : 0 ≤ (lo : Int) := by omega
      go_wp2
      go_ret
      exact ⟨_, _, _, rfl, by rw [V.out, List.take_of_length_le (by rw [LO.out]; omega)]; exact RO.out, B.out, FR.out⟩
/-- what the closure tells by which Rank looks -/
theorem pis_at (x : Ent) (id : Int) (g : Nat) (p : Bool) (w : World) (hg : Blk w 3 g #[.int .i64 id]) (h : (x.id == id) = p) :
    Calls Try.prog 26 #[.agg #[.int .i64 x.id, .int .i64 x.idx, .int .i64 x.rel, .int .i64 x.dl, .int .i64 x.bit, .int .i64 x.grp], .pointer (some ⟨g, 0, none⟩)] w fun e w' => e = .returned (.bool p) ∧ Below w.heap.size w w' := by
  have B := Lib.hid (wbox w (Obj.cells #[.int .i64 x.id, .int .i64 x.idx, .int .i64 x.rel, .int .i64 x.dl, .int .i64 x.bit, .int .i64 x.grp] 27))
  have g0 : _ = some _ := (hg.alloc (Obj.cells #[.int .i64 x.id, .int .i64 x.idx, .int .i64 x.rel, .int .i64 x.dl, .int .i64 x.bit, .int .i64 x.grp] 27)).cell 0
  have HG := Lib.hid hg
  have V := Lib.hid h
  clear h hg
  go_enter Try.func26, Try.ntmps26
  go_wp2
  go_ret
  exact ⟨ret_b V.out, B.out⟩

/-- the first one of that ID is number k; -1, if there is none -/
def FirstAt (es : List Ent) (id : Int) (k : Int) : Prop := (k = -1 ∧ ∀ x ∈ es, x.id ≠ id) ∨ ∃ (i : Nat) (x : Ent), k = (i : Int) ∧ es[i]? = some x ∧ x.id = id ∧ ∀ y ∈ es.take i, y.id ≠ id
theorem FirstAt.rank {es : List Ent} {id : Int} {k : Int} (h : FirstAt es id k) : (k < 0 ∧ rankE es id = -1) ∨ ∃ (i : Nat) (x : Ent), k = (i : Int) ∧ i < es.length ∧ es[i]? = some x ∧ rankE es id = (es.countP (fun y => lessB y x) : Nat) := by
  rcases h with ⟨rfl, h⟩ | ⟨i, x, rfl, hx, q, h⟩
  · exact .inl ⟨by omega, rank_none h⟩
  · have hi : i < es.length := by
      rcases Nat.lt_or_ge i es.length with g | g
      · exact g
      · rw [List.getElem?_eq_none g] at hx; cases hx
    obtain ⟨x', hx', _, hs⟩ := getE hi
    rw [hx] at hx'
    cases hx'
    exact .inr ⟨i, x, rfl, hi, hx, rank_found hs h q⟩
set_option maxRecDepth 20000 in
set_option maxHeartbeats 2000000 in
theorem pindex_any (a : Option Addr) (len cap : Nat) (es : List Ent) (id : Int) (g : Nat) (w : World) (h : RowE w a len cap es) (hg : Blk w 3 g #[.int .i64 id]) (hl : len ≤ 1000) :
    Calls Try.prog 25 #[.slice a len cap, .func (.func 26) #[] #[.pointer (some ⟨g, 0, none⟩)]] w fun e w' => ∃ k : Int, e = .returned (.int .i64 k) ∧ FirstAt es id k ∧ Below w.heap.size w w' := by
  have H := Lib.hid h
  have G := Lib.hid hg
  have LN := Lib.hid h.len
  clear h hg
  go_enter Try.func25, Try.ntmps25
  go_wp2
  go_loopw [8] (fun u wr => ∃ (i : Nat), u = .int .i64 i ∧ i ≤ len ∧ (∀ x ∈ es.take i, x.id ≠ id) ∧ Below w.heap.size w wr) (fun u _ => len - (intOf u).toNat)
  case atStart => exact ⟨0, rfl, by omega, by simp, Below.refl _ _⟩
  case round =>
    obtain ⟨i, rfl, il, hno, hbel⟩ := hrel
    have NO := Lib.hid hno
    have B := Lib.hid hbel
    clear hno hbel
    by_cases go : i < len
    · have b1 : decide (i < len) = true := by simp; omega
      have b2 : decide ((i : Int) < (len : Int)) = true := by simp; omega
      obtain ⟨x, hx, _, hxs⟩ := getE (es := es) (i := i) (by rw [LN.out]; exact go)
      have TS := Lib.hid (show es.take (i + 1) = es.take i ++ [x] by rw [List.take_add_one, hx]; rfl)
      have XH := Lib.hid hx
      obtain ⟨bl, ol, rfl, hat⟩ := H.out.at hx
      have XW := Lib.hid (hat.below B.out)
      have x0 := XW.out.c0; have x1 := XW.out.c1; have x2 := XW.out.c2; have x3 := XW.out.c3; have x4 := XW.out.c4; have x5 := XW.out.c5
      clear hx hat hxs
      have i1 : (i : Int) < (len : Int) := by omega
      have i2 : 0 ≤ (i : Int) := by omega
      obtain ⟨p, hp⟩ : ∃ p, (x.id == id) = p := ⟨_, rfl⟩
      have PP := Lib.hid hp
      clear hp
      go_wp2_with fail
      refine (pis_at x id g p _ (G.out.below B.out) PP.out).mono ?_
      rintro e w4 ⟨rfl, hb⟩
      have B := Lib.hid (below_next B.out hb)
      clear hb
      cases p with
      | true =>
        go_wp2
        go_ret
        exact ⟨_, rfl, .inr ⟨i, x, rfl, XH.out, by have := PP.out; simpa using this, NO.out⟩, B.out⟩
      | false =>
        go_wp2
        go_roundw
        case rel =>
          refine ⟨i + 1, by go_num, by omega, ?_, B.out⟩
          rw [TS.out]
          intro z hz
          rcases List.mem_append.mp hz with g | g
          · exact NO.out z g
          · rw [List.mem_singleton.mp g]; have := PP.out; simpa using this
        case measure => simp [intOf]; omega
    · have b1 : decide (i < len) = false := by simp; omega
      have b2 : decide ((i : Int) < (len : Int)) = false := by simp; omega
      have EF := Lib.hid (show es.take i = es from List.take_of_length_le (by rw [LN.out]; omega))
      go_wp2
      go_ret
      exact ⟨_, rfl, .inl ⟨rfl, EF.out ▸ NO.out⟩, B.out⟩
set_option maxRecDepth 20000 in
set_option maxHeartbeats 4000000 in
theorem prank_any (a : Option Addr) (len cap : Nat) (es : List Ent) (id : Int) (w : World) (h : RowE w a len cap es) (hl : len ≤ 1000) :
    Calls Try.prog 16 #[.slice a len cap, .int .i64 id] w fun e w' => e = .returned (.int .i64 (rankE es id)) ∧ Below w.heap.size w w' := by
  have H := Lib.hid (h.below (wbox w (Obj.cells #[.int .i64 id] 3)))
  have LN := Lib.hid h.len
  have G := Lib.hid (Blk.new w 3 #[.int .i64 id])
  have B := Lib.hid (wbox w (Obj.cells #[.int .i64 id] 3))
  clear h
  have hmf : ∀ (fn : Fn) (first cap : Array Value) (w : World), (Instr.makeFunc fn first cap).run Try.prog w = .ok (.func fn first cap) w := fun _ _ _ _ => rfl
  go_enter Try.func16, Try.ntmps16
  go_wp2_with fail
  go_step3
  go_wp2_with fail
  refine (pindex_any a len cap es id _ _ H.out G.out hl).mono ?_
  rintro e w1 ⟨k, rfl, hf, hb⟩
  have B := Lib.hid (below_next B.out hb)
  have H := Lib.hid (H.out.below hb)
  have FR := hf.rank
  clear hb hf
  rcases FR with ⟨k0, vr⟩ | ⟨i, x, rfl, il, hx, vr⟩
  · have t1 : decide (k < 0) = true := by simp; omega
    have V := Lib.hid vr
    clear vr
    go_wp2
    rw [Exit.noGoto_ret]
    go_ret
    exact ⟨ret_one V.out.symm, B.out⟩
  · have t1 : decide ((i : Int) < 0) = false := by simp
    have VR := Lib.hid vr
    rw [LN.out] at il
    obtain ⟨bl, ol, rfl, hat⟩ := H.out.at hx
    have XW := Lib.hid hat
    clear vr hat hx
    have i1 : (i : Int) < (len : Int) := by omega
    have i2 : 0 ≤ (i : Int) := by omega
    go_wp2
    go_step3
    go_wp2
    go_loopw [6, 16] (fun v u wr => ∃ (k : Nat), u = .int .i64 k ∧ k ≤ len ∧ v = .int .i64 ((es.take k).countP (fun y => lessB y x) : Nat) ∧ Below w1.heap.size w1 wr) (fun _ u _ => len - (intOf u).toNat)
    case atStart => exact ⟨0, rfl, by omega, rfl, Below.refl _ _⟩
    case round =>
      obtain ⟨k, rfl, kl, rfl, hbel⟩ := hrel
      have B2 := Lib.hid hbel
      clear hbel
      have cl : (es.take k).countP (fun y => lessB y x) ≤ k := Nat.le_trans List.countP_le_length (by rw [List.length_take]; omega)
      by_cases go' : k < len
      · have b3 : decide (k < len) = true := by simp; omega
        have b4 : decide ((k : Int) < (len : Int)) = true := by simp; omega
        obtain ⟨y, hy, _, _⟩ := getE (es := es) (i := k) (by rw [LN.out]; exact go')
        have TY := Lib.hid (show (es.take (k + 1)).countP (fun y => lessB y x) = (es.take k).countP (fun y => lessB y x) + (if lessB y x then 1 else 0) by rw [List.take_add_one, hy, List.countP_append]; simp [List.countP_cons])
        obtain ⟨c, hc⟩ : ∃ c, (es.take k).countP (fun y => lessB y x) = c := ⟨_, rfl⟩
        rw [hc] at TY cl ⊢
        clear hc
        obtain ⟨bo, oo, hab, hat⟩ := H.out.at hy
        simp only [Option.some.injEq, Addr.mk.injEq, and_true] at hab
        obtain ⟨rfl, rfl⟩ := hab
        have YW := Lib.hid (hat.below B2.out)
        have XB := Lib.hid (XW.out.below B2.out)
        have y0 := YW.out.c0; have y1 := YW.out.c1; have y2 := YW.out.c2; have y3 := YW.out.c3; have y4 := YW.out.c4; have y5 := YW.out.c5
        clear hy hat
        have k1' : (k : Int) < (len : Int) := by omega
        have k2' : 0 ≤ (k : Int) := by omega
        go_upto_region 8 with fail
        clear y0 y1 y2 y3 y4 y5
        have YB := Lib.hid (Blk.new wr 27 #[.int .i64 y.id, .int .i64 y.idx, .int .i64 y.rel, .int .i64 y.dl, .int .i64 y.bit, .int .i64 y.grp])
        have XB := Lib.hid (XB.out.below (wbox wr (Obj.cells #[.int .i64 y.id, .int .i64 y.idx, .int .i64 y.rel, .int .i64 y.dl, .int .i64 y.bit, .int .i64 y.grp] 27)))
        have BL := Lib.hid (below_next B2.out (wbox wr (Obj.cells #[.int .i64 y.id, .int .i64 y.idx, .int .i64 y.rel, .int .i64 y.dl, .int .i64 y.bit, .int .i64 y.grp] 27))).drew
        have KEPT := Lib.hid (show ∀ W : World, Below w1.heap.size w1 W → W.cell? ⟨bl, ol + i * 6, none⟩ = some (.int .i64 x.id) ∧ W.cell? ⟨bl, ol + i * 6 + 1, none⟩ = some (.int .i64 x.idx) ∧ W.cell? ⟨bl, ol + i * 6 + 2, none⟩ = some (.int .i64 x.rel) ∧ W.cell? ⟨bl, ol + i * 6 + 3, none⟩ = some (.int .i64 x.dl) ∧ W.cell? ⟨bl, ol + i * 6 + 4, none⟩ = some (.int .i64 x.bit) ∧ W.cell? ⟨bl, ol + i * 6 + 5, none⟩ = some (.int .i64 x.grp) from fun W h => ⟨(XW.out.below h).c0, (XW.out.below h).c1, (XW.out.below h).c2, (XW.out.below h).c3, (XW.out.below h).c4, (XW.out.below h).c5⟩)
        go_region_held3 (fun W => W.cell? ⟨bl, ol + i * 6, none⟩ = some (.int .i64 x.id) ∧ W.cell? ⟨bl, ol + i * 6 + 1, none⟩ = some (.int .i64 x.idx) ∧ W.cell? ⟨bl, ol + i * 6 + 2, none⟩ = some (.int .i64 x.rel) ∧ W.cell? ⟨bl, ol + i * 6 + 3, none⟩ = some (.int .i64 x.dl) ∧ W.cell? ⟨bl, ol + i * 6 + 4, none⟩ = some (.int .i64 x.bit) ∧ W.cell? ⟨bl, ol + i * 6 + 5, none⟩ = some (.int .i64 x.grp) ∧ W.cell? ⟨wr.heap.size, 0, none⟩ = some (.int .i64 y.id) ∧ W.cell? ⟨wr.heap.size, 1, none⟩ = some (.int .i64 y.idx) ∧ W.cell? ⟨wr.heap.size, 2, none⟩ = some (.int .i64 y.rel) ∧ W.cell? ⟨wr.heap.size, 3, none⟩ = some (.int .i64 y.dl) ∧ W.cell? ⟨wr.heap.size, 4, none⟩ = some (.int .i64 y.bit) ∧ W.cell? ⟨wr.heap.size, 5, none⟩ = some (.int .i64 y.grp))
          (exact ⟨(KEPT.out _ BL.out).1, (KEPT.out _ BL.out).2.1, (KEPT.out _ BL.out).2.2.1, (KEPT.out _ BL.out).2.2.2.1, (KEPT.out _ BL.out).2.2.2.2.1, (KEPT.out _ BL.out).2.2.2.2.2, YB.out.cell 0, YB.out.cell 1, YB.out.cell 2, YB.out.cell 3, YB.out.cell 4, YB.out.cell 5⟩)
          (first | (go_at_call 18; (with_reducible refine (pless_any y x _).mono ?_); rintro e w4 ⟨rfl, hb⟩; have YB := Lib.hid (YB.out.drew.below hb); have BL := Lib.hid (below_next BL.out hb); clear hb))
        all_goals
          obtain ⟨f, hf⟩ : ∃ f, lessB y x = f := ⟨_, rfl⟩
          rw [hf] at TY ⊢
          clear hf
          cases f with
          | true =>
            go_wp2
            go_roundw
            case rel => exact ⟨k + 1, by go_num, by omega, by rw [TY.out]; go_num, BL.out⟩
            case measure => simp [intOf]; omega
          | false =>
            go_wp2
            go_roundw
            case rel => exact ⟨k + 1, by go_num, by omega, by rw [TY.out]; rfl, BL.out⟩
            case measure => simp [intOf]; omega
      · have b3 : decide (k < len) = false := by simp; omega
        have b4 : decide ((k : Int) < (len : Int)) = false := by simp; omega
        have EF := Lib.hid (show es.take k = es from List.take_of_length_le (by rw [LN.out]; omega))
        go_wp2
        rw [Exit.noGoto_ret]
        go_ret
        exact ⟨ret_one (by rw [VR.out, EF.out]), below_next B.out B2.out⟩
end Go.Proofs.Ytkiolkceaibmgaa
