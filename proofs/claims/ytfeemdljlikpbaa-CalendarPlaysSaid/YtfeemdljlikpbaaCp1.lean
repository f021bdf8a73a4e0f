/-
  The walk of the law CalendarPlays, for a package calendar that is as P8.1 and P8.2 say.
-/
import Derived.Test.YtfeemdljlikpbaaCp0
import Derived.Deep.CutBlock
namespace Go.Proofs.Ytfeemdljlikpbaa
open Go.RowKit

theorem ops8_at {w : World} {a : Option Addr} {len cap : Nat} {rs : List (List Value)} (h : RowF w a len cap 5 rs) (f : ∀ r ∈ rs, Fit [.int .i64, .bool, .int .i64, .int .i64, .int .i64] r) {i : Nat} (hi : i < len) : ∃ (b off : Nat) (K : Int) (N : Bool) (o : Ev), a = some ⟨b, off, none⟩ ∧ w.cell? ⟨b, off + i * 5, none⟩ = some (.int .i64 K) ∧ w.cell? ⟨b, off + i * 5 + 1, none⟩ = some (.bool N) ∧ w.cell? ⟨b, off + i * 5 + 2, none⟩ = some (.int .i64 o.d) ∧ w.cell? ⟨b, off + i * 5 + 3, none⟩ = some (.int .i64 o.i) ∧ w.cell? ⟨b, off + i * 5 + 4, none⟩ = some (.int .i64 o.k) := by
  obtain ⟨b, off, ha, hc⟩ := h.2.2.2.2 i hi
  have hl : i < rs.length := by rw [h.1]; exact hi
  have g := f rs[i] (List.getElem_mem hl)
  obtain ⟨K, q0, e0, _, g1⟩ := g.int
  obtain ⟨N, q1, rfl, g2⟩ := g1.truth
  obtain ⟨D, q2, rfl, _, g3⟩ := g2.int
  obtain ⟨I, q3, rfl, _, g4⟩ := g3.int
  obtain ⟨X, q4, rfl, _, _⟩ := g4.int
  have e : rs.getD i [] = .int .i64 K :: .bool N :: .int .i64 D :: .int .i64 I :: .int .i64 X :: q4 := by rw [List.getD_eq_getElem?_getD, List.getElem?_eq_getElem hl, ← e0]; rfl
  rw [e] at hc
  exact ⟨b, off, K, N, ⟨D, I, X⟩, ha, hc 0 (by omega), hc 1 (by omega), hc 2 (by omega), hc 3 (by omega), hc 4 (by omega)⟩
set_option maxRecDepth 100000 in
set_option maxHeartbeats 8000000 in
theorem cplays_walk {Hp : World → Nat → (Nat → Prop) → List Ev → Prop} (ok : CalOk Hp) (a : Option Addr) (len cap : Nat) (rs : List (List Value)) (w : World) (h : RowF w a len cap 5 rs) (f : ∀ r ∈ rs, Fit [.int .i64, .bool, .int .i64, .int .i64, .int .i64] r) : Calls Try.prog 3 #[.slice a len cap] w fun e w' => e = .returned (.bool true) ∧ Below w.heap.size w w' := by
  have OK := Lib.hid ok
  have AT := Lib.hid (fun (i : Nat) (hi : i < len) => ops8_at h f hi)
  have zc := h.cap_le
  clear h f ok
  go_enter Try.func3, Try.ntmps3
  go_wp2_with fail
  refine (l8awake OK.out _).mono ?_
  rintro e w1 ⟨rfl, hb⟩
  have B := Lib.hid hb
  clear hb
  go_wp2_with fail
  refine (m8new OK.out _ B.out).mono ?_
  rintro e w2 ⟨g, rfl, hm⟩
  have P0 := Lib.hid (show Both8 Hp w (fun _ => False) g w2.heap.size [] [] (w2.alloc (.cells #[.slice none 0 0] 29)) from
    ⟨fun k => k = w2.heap.size, (hm.own1 OK.out _).less OK.out (fun k q => by rcases q with q | q; exact .inr q; exact q.elim), ⟨none, 0, Blk.new _ _ _, RowV.nil, (fun k => by simp), (fun ad e => by cases e)⟩, (fun _ _ q => q)⟩)
  clear hm B
  go_wp2
  obtain ⟨r, hr⟩ : ∃ r, w2.heap.size = r := ⟨_, rfl⟩
  rw [hr] at P0 ⊢
  clear hr
  go_loopw [6] (fun u wr => ∃ (i : Nat) (es : List Ev), u = .int .i64 i ∧ i ≤ len ∧ i ≤ 60 ∧ es.length ≤ i ∧ Both8 Hp w (fun _ => False) g r es es wr) (fun u _ => len - (intOf u).toNat)
  case atStart => exact ⟨0, [], rfl, by omega, by omega, by simp, P0.out⟩
  case round =>
    obtain ⟨i, es, rfl, il, i60, tl, hp⟩ := hrel
    clear P0
    have P := Lib.hid hp
    have HTS := Lib.hid tl
    clear hp
    by_cases d1 : i < len
    · have b1 : decide (i < len) = true := by simp; omega
      have b2 : decide ((i : Int) < (len : Int)) = true := by simp; omega
      by_cases d2 : i < 60
      · have b3 : decide ((i : Int) < 60) = true := by simp; omega
        have b3n : decide (i < 60) = true := by simp; omega
        obtain ⟨ba, oa, K, N, o, rfl, hk0, hk1, hk2, hk3, hk4⟩ := AT.out i d1
        have c0 := hb_cellE P.out.below hk0
        have c1 := hb_cellE P.out.below hk1
        have c2 := hb_cellE P.out.below hk2
        have c3 := hb_cellE P.out.below hk3
        have c4 := hb_cellE P.out.below hk4
        have i1 : (i : Int) < (len : Int) := by omega
        have i2 : 0 ≤ (i : Int) := by omega
        have EV := Lib.hid (fun w => l8event_any K N o w)
        obtain ⟨ev, hev⟩ : ∃ ev, (if N then nearE o else o) = ev := ⟨_, rfl⟩
        simp only [hev] at EV
        obtain ⟨kd, hkd⟩ : ∃ kd, bits .and .i64 K 7 = kd := ⟨_, rfl⟩
        have K0 := Lib.hid hk0
        clear hk0 hk1 hk2 hk3 hk4 hev
        go_wp2_with fail
        refine (EV.out _).mono ?_
        rintro e w3 ⟨rfl, hb⟩
        have P3 := Lib.hid (P.out.next OK.out hb)
        clear hb c0 c1 c2 c3 c4
        have c0 := hb_cellE P3.out.below K0.out
        go_upto_region 10 with fail
        obtain ⟨W1, hW1⟩ : ∃ W1, w3.alloc (Obj.cells #[.int .i64 ev.d, .int .i64 ev.i, .int .i64 ev.k] 31) = W1 := ⟨_, rfl⟩
        have M := Lib.hid (show Both8 Hp w (fun k => k = w3.heap.size) g r es es W1 by rw [← hW1]; exact (P3.out.own1 OK.out _).less OK.out (fun k q => .inr q))
        have E := Lib.hid (show Blk W1 31 w3.heap.size #[.int .i64 ev.d, .int .i64 ev.i, .int .i64 ev.k] by rw [← hW1]; exact Blk.new _ _ _)
        have c1 := hb_cellE (show Below w3.heap.size w3 W1 by rw [← hW1]; exact wbox _ _) c0
        rw [hW1]
        clear hW1 c0 P3
        obtain ⟨bx, hbx⟩ : ∃ bx, w3.heap.size = bx := ⟨_, rfl⟩
        rw [hbx] at M E ⊢
        clear hbx
        have x0 := E.out.cell 0; have x1 := E.out.cell 1; have x2 := E.out.cell 2
        simp only [List.getElem?_toArray, List.getElem?_cons_zero, List.getElem?_cons_succ] at x0 x1 x2
        have OW := Lib.hid (M.out.own OK.out)
        go_upto_block 2 with fail
        go_cut [8] (fun s8 wx => s8 = .bool true ∧ ∃ es', es'.length ≤ i + 1 ∧ Both8 Hp w (fun k => k = bx) g r es' es' wx)
        case rest => as_aux_lemma =>
          obtain ⟨rfl, es', htl, hm⟩ := hcut
          clear M E
          have M := Lib.hid hm
          clear hm x0 x1 x2
          obtain ⟨ar, cr, hcr, _⟩ := M.out.row
          go_upto_region 27 with fail
          have M := Lib.hid (show Both8 Hp w (fun k => k = bx) g r es' es' (World.drew _) from M.out.next OK.out ((Below.refl _ _).drew))
          have BL := Lib.hid (show (World.drew _).cell? ⟨r, 0, none⟩ = some (.slice ar es'.length cr) from hcr)
          have KEPT := Lib.hid (show ∀ w' : World, w'.cell? ⟨r, 0, none⟩ = some (.slice ar es'.length cr) → w'.cell? ⟨r, 0, none⟩ = some (.slice ar es'.length cr) from fun _ h => h)
          have HL := Lib.hid (show es'.length ≤ 500 by omega)
          clear hcr
          go_region_held3 (fun w' => w'.cell? ⟨r, 0, none⟩ = some (.slice ar es'.length cr))
            (exact KEPT.out _ BL.out)
            (first
              | (go_at_call 21; (with_reducible refine (p8len OK.out g r es' es' M.out HL.out).mono ?_); rintro e w9 ⟨rfl, hm, hcell⟩; have M := Lib.hid hm; have BL := Lib.hid (hcell.trans BL.out); clear hm hcell))
          all_goals
            go_wp2
            go_roundw
            case rel => exact ⟨i + 1, es', by go_num, by omega, by omega, htl, M.out.less OK.out (fun _ q => q.elim)⟩
            case measure => simp [intOf]; omega
        by_cases k4 : kd = 4
        · as_aux_lemma =>
          have e4 : (kd == 4) = true := by simp [k4]
          clear k4
          go_wp2_with fail
          refine (p8drop OK.out g r es es ev.i ev.k M.out (by have := HTS.out; omega)).mono ?_
          rintro e w4 ⟨x, p, rfl, hx, hm, hh⟩
          have GX := Lib.hid hx
          obtain ⟨W4, hW4⟩ : ∃ W4, w4.alloc (Obj.cells #[.int .i64 x.d, .int .i64 x.i, .int .i64 x.k] 31) = W4 := ⟨_, rfl⟩
          have M4 := Lib.hid (show Both8 Hp w (fun k => k = bx ∨ k = w4.heap.size) g r (DroppedV es ev.i ev.k) es W4 by rw [← hW4]; exact hm.own1 OK.out _)
          have E4 := Lib.hid (show Blk W4 31 bx #[.int .i64 ev.d, .int .i64 ev.i, .int .i64 ev.k] by rw [← hW4]; exact (hh.blk E.out rfl).alloc _)
          have A4 := Lib.hid (show Blk W4 31 w4.heap.size #[.int .i64 x.d, .int .i64 x.i, .int .i64 x.k] by rw [← hW4]; exact Blk.new _ _ _)
          clear hx hm hh x0 x1 x2
          have x1 := E4.out.cell 1; have x2 := E4.out.cell 2
          simp only [List.getElem?_toArray, List.getElem?_cons_zero, List.getElem?_cons_succ] at x1 x2
          go_wp2_with fail
          clear hW4
          refine (q8drop OK.out g r (DroppedV es ev.i ev.k) es ev.i ev.k M4.out (by have := HTS.out; omega)).mono ?_
          rintro e w5 ⟨y, q, rfl, hy, hm, hh⟩
          obtain ⟨rfl, rfl⟩ := gotV_fun GX.out hy
          obtain ⟨W6, hW6⟩ : ∃ W6, w5.alloc (Obj.cells #[.int .i64 x.d, .int .i64 x.i, .int .i64 x.k] 31) = W6 := ⟨_, rfl⟩
          have M := Lib.hid (show Both8 Hp w (fun k => k = bx) g r (DroppedV es ev.i ev.k) (DroppedV es ev.i ev.k) W6 by rw [← hW6]; exact (hm.next OK.out (wbox _ _)).less OK.out (fun k q => .inl q))
          have A6 := Lib.hid (show Blk W6 31 w4.heap.size #[.int .i64 x.d, .int .i64 x.i, .int .i64 x.k] by rw [← hW6]; exact (hh.blk A4.out (.inr rfl)).alloc _)
          have C6 := Lib.hid (show Blk W6 31 w5.heap.size #[.int .i64 x.d, .int .i64 x.i, .int .i64 x.k] by rw [← hW6]; exact Blk.new _ _ _)
          clear hy hm hh x1 x2
          have y0 := A6.out.cell 0; have y1 := A6.out.cell 1; have y2 := A6.out.cell 2
          have z0 := C6.out.cell 0; have z1 := C6.out.cell 1; have z2 := C6.out.cell 2
          simp only [List.getElem?_toArray, List.getElem?_cons_zero, List.getElem?_cons_succ] at y0 y1 y2 z0 z1 z2
          have HD := Lib.hid (show (DroppedV es ev.i ev.k).length ≤ i + 1 by
            unfold DroppedV
            have := HTS.out
            split
            · rw [List.length_eraseIdx]; split <;> omega
            · omega)
          have HL := Lib.hid (show (DroppedV es ev.i ev.k).length ≤ i + 1 from HD.out)
          go_wp2_with fail
          go_meet
          exact ⟨rfl, DroppedV es ev.i ev.k, HL.out, M.out⟩
        by_cases k5 : kd = 5
        · as_aux_lemma =>
          have e4 : (kd == 4) = false := by simp [k4]
          have e5 : (kd == 5) = true := by simp [k5]
          clear k4 k5
          go_upto_region 18 with fail
          have M := Lib.hid (show Both8 Hp w (fun k => k = bx) g r es es W1.drew from M.out.next OK.out ((Below.refl _ _).drew))
          have BL := Lib.hid (show Blk W1.drew 31 bx #[.int .i64 ev.d, .int .i64 ev.i, .int .i64 ev.k] from E.out.drew)
          have KEPT := Lib.hid (show ∀ w' : World, Blk w' 31 bx #[.int .i64 ev.d, .int .i64 ev.i, .int .i64 ev.k] → w'.cell? ⟨bx, 0, none⟩ = some (.int .i64 ev.d) from fun _ h => h.cell 0)
          have H500 := Lib.hid (show es.length ≤ 500 by have := HTS.out; omega)
          clear x0 x1 x2
          go_region_held3 (fun w' => w'.cell? ⟨bx, 0, none⟩ = some (.int .i64 ev.d))
            (exact KEPT.out _ BL.out)
            (first
              | (go_at_call 14; (with_reducible refine (p8due OK.out g r es es ev.d M.out H500.out).mono ?_); rintro e w4 ⟨aa, ca, rfl, hr, hm, hh⟩; have RA := Lib.hid hr; have M4 := Lib.hid hm; have BL := Lib.hid (hh.blk BL.out rfl); clear hr hm hh)
              | (go_at_call 15; (with_reducible refine (q8due OK.out g r (es.drop (dueN es ev.d)) es ev.d M4.out H500.out).mono ?_); rintro e w5 ⟨ab, cb, rfl, hr, hm, hh⟩; have RB := Lib.hid hr; have M5 := Lib.hid hm; have BL := Lib.hid (hh.blk BL.out (.inl rfl)); have RA := Lib.hid (hh.row RA.out (fun ad e => .inr ⟨ad, e, rfl⟩)); clear hr hm hh)
              | (go_at_call 13; (with_reducible refine (r8same_yes aa ab (dueN es ev.d) ca cb _ _ RA.out RB.out).mono ?_); rintro e w6 ⟨rfl, hb⟩; have M6 := Lib.hid (M5.out.next OK.out hb); have BL := Lib.hid (BL.out.below hb); clear hb))
          all_goals
            have M := Lib.hid (M6.out.less OK.out (X' := (fun k => k = bx)) (fun k q => .inl q))
            have HL := Lib.hid (show (es.drop (dueN es ev.d)).length ≤ i + 1 from by rw [List.length_drop]; have := HTS.out; omega)
            go_wp2_with fail
            go_meet
            exact ⟨rfl, es.drop (dueN es ev.d), HL.out, M.out⟩
        by_cases k6 : kd = 6
        · as_aux_lemma =>
          have e4 : (kd == 4) = false := by simp [k4]
          have e5 : (kd == 5) = false := by simp [k5]
          have e6 : (kd == 6) = true := by simp [k6]
          clear k4 k5 k6
          go_wp2_with fail
          refine (p8next OK.out g r es es M.out (by have := HTS.out; omega)).mono ?_
          rintro e w4 ⟨x, p, rfl, hx, hm, hh⟩
          have FX := Lib.hid hx
          obtain ⟨W4, hW4⟩ : ∃ W4, w4.alloc (Obj.cells #[.int .i64 x.d, .int .i64 x.i, .int .i64 x.k] 31) = W4 := ⟨_, rfl⟩
          have M := Lib.hid (show Both8 Hp w (fun k => k = bx) g r es es (W4.alloc (Obj.cells #[.int .i64 0, .int .i64 0, .int .i64 0] 31)) by rw [← hW4]; exact (hm.next OK.out (wbox _ _)).next OK.out (wbox _ _))
          have A5 := Lib.hid (show Blk (W4.alloc (Obj.cells #[.int .i64 0, .int .i64 0, .int .i64 0] 31)) 31 w4.heap.size #[.int .i64 x.d, .int .i64 x.i, .int .i64 x.k] by rw [← hW4]; exact (Blk.new _ _ _).alloc _)
          have C5 := Lib.hid (Blk.new W4 31 #[.int .i64 0, .int .i64 0, .int .i64 0])
          clear hx hm hh x0 x1 x2
          go_upto_region 22 with fail
          obtain ⟨W5, hW5⟩ : ∃ W5, W4.alloc (Obj.cells #[.int .i64 0, .int .i64 0, .int .i64 0] 31) = W5 := ⟨_, rfl⟩
          rw [hW5] at M A5 C5 ⊢
          clear hW5 hW4
          have y0 := A5.out.cell 0; have y1 := A5.out.cell 1; have y2 := A5.out.cell 2
          have z0 := C5.out.cell 0; have z1 := C5.out.cell 1; have z2 := C5.out.cell 2
          simp only [List.getElem?_toArray, List.getElem?_cons_zero, List.getElem?_cons_succ] at y0 y1 y2 z0 z1 z2
          obtain ⟨ar, cr, hcr, hrow⟩ := M.out.row
          have RW := Lib.hid hrow
          clear hrow
          rcases FX.out with ⟨he, hx, hp⟩ | ⟨hx, hp⟩
          · subst hx hp
            change _ = some (Value.int .i64 0) at y0 y1 y2
            have hz : es.length = 0 := by rw [he]; rfl
            obtain ⟨n, hn⟩ : ∃ n, es.length = n := ⟨_, rfl⟩
            rw [hn] at hcr hz
            have n2 : decide ((0 : Int) < (n : Int)) = false := by simp; omega
            have n3 : decide (0 < n) = false := by simp; omega
            clear he hn hz
            go_quiet (fail)
            all_goals
              have MD := Lib.hid (fun n => M.out.next OK.out (below_drewNE (Below.refl _ W5) n))
              have HL := Lib.hid (show (es).length ≤ i + 1 from by have := HTS.out; omega)
              go_wp2_with fail
              go_meet
              exact ⟨rfl, es, HL.out, MD.out _⟩
          · subst hp
            obtain ⟨bl, ol, rfl, hat⟩ := RW.out.at hx
            have r0 := hat.c0; have r1 := hat.c1; have r2 := hat.c2
            simp only [Nat.zero_mul, Nat.add_zero] at r0 r1 r2
            obtain ⟨n, hn⟩ : ∃ n, es.length = n := ⟨_, rfl⟩
            have n0 : 0 < n := by rw [← hn]; exact at_lt hx
            have HN := Lib.hid hn
            rw [hn] at hcr
            have n1 : (0 : Int) < (n : Int) := by omega
            have n2 : decide ((0 : Int) < (n : Int)) = true := decide_eq_true n1
            have n3 : decide (0 < n) = true := decide_eq_true n0
            clear hx hat hn
            go_quiet (fail)
            all_goals
              have MD := Lib.hid (fun n => M.out.next OK.out (below_drewNE (Below.refl _ W5) n))
              have HL := Lib.hid (show (es).length ≤ i + 1 from by have := HTS.out; omega)
              go_wp2_with fail
              go_meet
              exact ⟨rfl, es, HL.out, MD.out _⟩
        by_cases k7 : kd = 7
        · as_aux_lemma =>
          have e4 : (kd == 4) = false := by simp [k4]
          have e5 : (kd == 5) = false := by simp [k5]
          have e6 : (kd == 6) = false := by simp [k6]
          have e7 : (kd == 7) = true := by simp [k7]
          clear k4 k5 k6 k7
          go_wp2_with fail
          refine (p8at OK.out g r es es ev.i ev.k M.out (by have := HTS.out; omega)).mono ?_
          rintro e w4 ⟨x, p, rfl, hx, hm, hh⟩
          have GX := Lib.hid hx
          have M := Lib.hid hm
          have E4 := Lib.hid (hh.blk E.out rfl)
          clear hx hm hh x0 x1 x2
          have x1 := E4.out.cell 1; have x2 := E4.out.cell 2
          simp only [List.getElem?_toArray, List.getElem?_cons_zero, List.getElem?_cons_succ] at x1 x2
          go_wp2_with fail
          refine (q8find g r es es ev.i ev.k M.out (by have := HTS.out; omega)).mono ?_
          rintro e w5 ⟨rfl, rfl⟩
          obtain ⟨ar, cr, hcr, hrow⟩ := M.out.row
          have RW := Lib.hid hrow
          clear hrow
          rcases GX.out with ⟨hp, hx, hq⟩ | ⟨j, hp, hx, hq⟩
          · subst hx hq
            rw [hp]
            clear hp
            have HL := Lib.hid (show (es).length ≤ i + 1 from by have := HTS.out; omega)
            go_wp2_with fail
            go_meet
            exact ⟨rfl, es, HL.out, M.out⟩
          · subst hq
            rw [hp]
            obtain ⟨bl, ol, rfl, hat⟩ := RW.out.at hx
            have r0 := hat.c0
            obtain ⟨n, hn⟩ : ∃ n, es.length = n := ⟨_, rfl⟩
            have jn : j < n := by rw [← hn]; exact at_lt hx
            have HN := Lib.hid hn
            rw [hn] at hcr
            have j1 : (j : Int) < (n : Int) := by omega
            have j2 : 0 ≤ (j : Int) := by omega
            have j3 : decide (0 ≤ (j : Int)) = true := decide_eq_true j2
            clear hx hat hn hp
            have HL := Lib.hid (show (es).length ≤ i + 1 from by have := HTS.out; omega)
            go_wp2_with fail
            go_meet
            exact ⟨rfl, es, HL.out, M.out⟩
        as_aux_lemma =>
          have e4 : (kd == 4) = false := by simp [k4]
          have e5 : (kd == 5) = false := by simp [k5]
          have e6 : (kd == 6) = false := by simp [k6]
          have e7 : (kd == 7) = false := by simp [k7]
          clear k4 k5 k6 k7
          go_upto_region 12 with fail
          have M := Lib.hid (show Both8 Hp w (fun k => k = bx) g r es es W1.drew from M.out.next OK.out ((Below.refl _ _).drew))
          have BL := Lib.hid (show Blk W1.drew 31 bx #[.int .i64 ev.d, .int .i64 ev.i, .int .i64 ev.k] from E.out.drew)
          have KEPT := Lib.hid (show ∀ w' : World, Blk w' 31 bx #[.int .i64 ev.d, .int .i64 ev.i, .int .i64 ev.k] → w'.cell? ⟨bx, 0, none⟩ = some (.int .i64 ev.d) ∧ w'.cell? ⟨bx, 1, none⟩ = some (.int .i64 ev.i) ∧ w'.cell? ⟨bx, 2, none⟩ = some (.int .i64 ev.k) from fun _ h => ⟨h.cell 0, h.cell 1, h.cell 2⟩)
          have H500 := Lib.hid (show es.length ≤ 500 by have := HTS.out; omega)
          clear x0 x1 x2
          go_region_held3 (fun w' => w'.cell? ⟨bx, 0, none⟩ = some (.int .i64 ev.d) ∧ w'.cell? ⟨bx, 1, none⟩ = some (.int .i64 ev.i) ∧ w'.cell? ⟨bx, 2, none⟩ = some (.int .i64 ev.k))
            (exact KEPT.out _ BL.out)
            (first
              | (go_at_call 19; (with_reducible refine (p8put OK.out g r es es ev M.out H500.out).mono ?_); rintro e w4 ⟨c4, ec, rfl, hp, hm, hh⟩; have PE := Lib.hid hp; have M4 := Lib.hid hm; have BL := Lib.hid (hh.blk BL.out rfl); clear hp hm hh)
              | (go_at_call 20; (with_reducible refine (q8put OK.out g r ec es ev M4.out H500.out).mono ?_); rintro e w5 ⟨c5, er, rfl, hp, hm, hh⟩; obtain ⟨rfl, rfl⟩ := putV_fun PE.out hp; have M5 := Lib.hid hm; have BL := Lib.hid (hh.blk BL.out rfl); clear hp hm hh))
          all_goals
            have M := M5
            have HP := Lib.hid (show ec.length ≤ i + 1 by
              have := HTS.out
              rcases PE.out with ⟨_, _, q⟩ | ⟨_, _, _, q⟩ | ⟨_, _, _, q⟩
              · rw [q]; omega
              · rw [q]; omega
              · rw [q, insV_len]; omega)
            have HL := Lib.hid (show (ec).length ≤ i + 1 from HP.out)
            go_wp2_with fail
            go_meet
            exact ⟨rfl, ec, HL.out, M.out⟩
      · have b3 : decide ((i : Int) < 60) = false := by simp; omega
        have b3n : decide (i < 60) = false := by simp; omega
        go_wp2
        go_ret
        exact ⟨rfl, P.out.below⟩
    · have b1 : decide (i < len) = false := by simp; omega
      have b2 : decide ((i : Int) < (len : Int)) = false := by simp; omega
      go_wp2
      go_ret
      exact ⟨rfl, P.out.below⟩
end Go.Proofs.Ytfeemdljlikpbaa
