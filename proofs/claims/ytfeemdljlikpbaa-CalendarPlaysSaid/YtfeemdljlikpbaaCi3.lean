/-
  The walk of the law CalendarDrop, for a package calendar that is as P8.1 and P8.2 say.
-/
import Derived.Test.YtfeemdljlikpbaaCi2
namespace Go.Proofs.Ytfeemdljlikpbaa
open Go.RowKit

section
variable {P : Program} {ops : Array Oper} {Q : Exit → Act → World → Prop} {md : Region.Mode} {S : World → Prop}
/-- take number i first: it is wanted -/
theorem takeY {i : Nat} {oi : Oper} {v : Value} {fuel : Nat} {listed : Array Bool} {a : Act} {w : World} (hi : ops[i]? = some oi)
    (hs : Region.noSelect ops = true) (hf : Region.free md ops listed i = true) (hr : (Region.ready md ops listed).contains i = true)
    (hQ : ∀ c a w, Q (.panic c) (a.put oi.dst v) w → Q (.panic c) a w) (hw : Region.wanted oi (yielded ops a.tmps) = true) (hy : ∀ w, S w → (execOp a.eval oi).run P w = .ok (.value v) w) (hS : S w)
    (h : wpAnyH P md ops Q S fuel (listed.setIfInBounds i true) (a.put oi.dst v) w) : wpAnyH P md ops Q S (fuel + 1) listed a w :=
  wpAnyH_take hi hs hf hr hQ (.inl ⟨hw, hy⟩) hS h
/-- .. it is not wanted -/
theorem takeN {i : Nat} {oi : Oper} {fuel : Nat} {listed : Array Bool} {a : Act} {w : World} (hi : ops[i]? = some oi)
    (hs : Region.noSelect ops = true) (hf : Region.free md ops listed i = true) (hr : (Region.ready md ops listed).contains i = true)
    (hQ : ∀ c a w, Q (.panic c) (a.put oi.dst undef) w → Q (.panic c) a w) (hw : Region.wanted oi (yielded ops a.tmps) = false) (hS : S w)
    (h : wpAnyH P md ops Q S fuel (listed.setIfInBounds i true) (a.put oi.dst undef) w) : wpAnyH P md ops Q S (fuel + 1) listed a w :=
  wpAnyH_take hi hs hf hr hQ (.inr ⟨hw, rfl⟩) hS h
end
/-- the law's own block, new -/
theorem Mine8.own1 {Hp : World → Nat → (Nat → Prop) → List Ev → Prop} (ok : CalOk Hp) {w wr : World} {G : Nat → Prop} {g : Nat} {es : List Ev} (h : Mine8 Hp w G g es wr) (o : Obj) : Mine8 Hp w (fun k => G k ∨ k = wr.heap.size) g es (wr.alloc o) :=
  h.wrote ok (Keeps.of (wbox _ _)) (fun k q => q.imp id (fun e => by omega)) (by
    obtain ⟨_, _, _, _, _, h5, _⟩ := h
    intro k q
    rcases q with q | q
    · exact h5.next (wbox wr o).size k q
    · subst q; simp)
set_option maxRecDepth 20000 in
set_option maxHeartbeats 8000000 in
theorem cdrop_walk {Hp : World → Nat → (Nat → Prop) → List Ev → Prop} (ok : CalOk Hp) (a : Option Addr) (len cap : Nat) (l : List Ev) (o : Ev) (w : World) (h : RowV w a len cap l) : Calls Try.prog 5 #[.slice a len cap, .agg #[.int .i64 o.d, .int .i64 o.i, .int .i64 o.k]] w fun e w' => e = .returned (.bool true) ∧ Below w.heap.size w w' := by
  have OK := Lib.hid ok
  obtain ⟨W0, hW0⟩ : ∃ W0, w.alloc (.cells #[.int .i64 o.d, .int .i64 o.i, .int .i64 o.k] 31) = W0 := ⟨_, rfl⟩
  have B0 := Lib.hid (show Below w.heap.size w W0 by rw [← hW0]; exact wbox _ _)
  have N0 := Lib.hid (show Blk W0 31 w.heap.size #[.int .i64 o.d, .int .i64 o.i, .int .i64 o.k] by rw [← hW0]; exact Blk.new w _ _)
  have Z := Lib.hid (h.below B0.out)
  have LN := Lib.hid h.len
  have zc := h.cap_le
  clear h ok
  go_enter Try.func5, Try.ntmps5
  go_wp2_with fail
  refine (l8awake OK.out _).mono ?_
  rintro e w1 ⟨rfl, hb⟩
  have B := Lib.hid hb
  clear hb hW0
  go_wp2_with fail
  refine (m8new OK.out _ B.out).mono ?_
  rintro e w2 ⟨g, rfl, hm⟩
  have M := Lib.hid hm
  clear hm B
  go_wp2
  go_loopw [7] (fun u wr => ∃ (i : Nat) (es : List Ev), u = .int .i64 i ∧ i ≤ len ∧ i ≤ 30 ∧ es.length ≤ i ∧ (∀ x ∈ es, x.d ≤ 15) ∧ Mine8 Hp W0 G0 g es wr) (fun u _ => len - (intOf u).toNat)
  case atStart => exact ⟨0, [], rfl, by omega, by omega, by simp, by simp, M.out⟩
  case round =>
    obtain ⟨i, es, rfl, il, i30, el, hd, hm⟩ := hrel
    clear M
    have M := Lib.hid hm
    have D := Lib.hid hd
    clear hm hd
    by_cases d1 : i < len ∧ i < 30
    · have b1 : decide (i < len) = true := by simp; omega
      have b2 : decide ((i : Int) < (len : Int)) = true := by simp; omega
      have b3 : decide ((i : Int) < 30) = true := by simp; omega
      have b3n : decide (i < 30) = true := by simp; omega
      obtain ⟨x, hx⟩ := getV (es := l) (i := i) (by rw [LN.out]; omega)
      obtain ⟨bl, ol, rfl, hat⟩ := (Z.out.below M.out.below).at hx
      have x0 := hat.c0; have x1 := hat.c1; have x2 := hat.c2
      have i1 : (i : Int) < (len : Int) := by omega
      have i2 : 0 ≤ (i : Int) := by omega
      obtain ⟨y, hy⟩ : ∃ y, nearE x = y := ⟨_, rfl⟩
      have EV := Lib.hid (fun w => l8event_any 0 true x w)
      simp only [if_true, hy] at EV
      have YB := Lib.hid (hy ▸ near_bd x)
      have YG := Lib.hid (hy ▸ near_good x)
      have d2 : i < 30 := d1.2
      clear hx hat hy d1
      go_wp2_with fail
      refine (EV.out _).mono ?_
      rintro e w3 ⟨rfl, hb⟩
      have M3 := Lib.hid (M.out.next OK.out (below_next (wbox _ _) hb))
      clear hb
      go_wp2_with fail
      refine (m8put OK.out g es y M3.out (by omega)).mono ?_
      rintro e w4 (⟨h, _, _⟩ | ⟨_, _, rfl, hm, _⟩ | ⟨_, _, rfl, hm, _⟩)
      · exact absurd h YG.out
      · have M4 := Lib.hid hm
        clear hm
        go_wp2
        go_roundw
        case rel => exact ⟨i + 1, es, by go_num, by omega, by omega, by omega, D.out, M4.out⟩
        case measure => simp [intOf]; omega
      · have M4 := Lib.hid hm
        clear hm
        go_wp2
        go_roundw
        case rel => exact ⟨i + 1, insV y es, by go_num, by omega, by omega, by rw [insV_len]; omega, (fun z hz => by
          rcases mem_insV.mp hz with rfl | hz
          · exact YB.out.1.2
          · exact D.out z hz), M4.out⟩
        case measure => simp [intOf]; omega
    · have hend : (decide (i < len) = false ∧ decide ((i : Int) < (len : Int)) = false) ∨ (decide (i < len) = true ∧ decide ((i : Int) < (len : Int)) = true ∧ decide (i < 30) = false ∧ decide ((i : Int) < 30) = false) := by
        rcases Nat.lt_or_ge i len with q | q
        · exact .inr ⟨by simp; omega, by simp; omega, by simp; omega, by simp; omega⟩
        · exact .inl ⟨by simp; omega, by simp; omega⟩
      have q0 := (N0.out.below M.out.below).cell 0
      have q1 := (N0.out.below M.out.below).cell 1
      have q2 := (N0.out.below M.out.below).cell 2
      simp at q0 q1 q2
      obtain ⟨y, hy⟩ : ∃ y, nearE o = y := ⟨_, rfl⟩
      have EV := Lib.hid (fun w => l8event_any 0 true o w)
      simp only [if_true, hy] at EV
      have YB := Lib.hid (hy ▸ near_bd o)
      have YG := Lib.hid (hy ▸ near_good o)
      have e30 : es.length ≤ 30 := by omega
      clear hy d1
      rcases hend with ⟨b1, b2⟩ | ⟨b1, b2, b3, b4⟩
      · skip
        go_wp2_with fail
        refine (EV.out _).mono ?_
        rintro e w3 ⟨rfl, hb⟩
        have M3 := Lib.hid (M.out.next OK.out (below_next (wbox _ _) hb))
        clear hb q0 q1 q2
        obtain ⟨W4, hW4⟩ : ∃ W4, w3.alloc (.cells #[.int .i64 y.d, .int .i64 y.i, .int .i64 y.k] 31) = W4 := ⟨_, rfl⟩
        have M4 := Lib.hid (show Mine8 Hp W0 (fun k => G0 k ∨ k = w3.heap.size) g es W4 by rw [← hW4]; exact M3.out.own1 OK.out _)
        have E4 := Lib.hid (show Blk W4 31 w3.heap.size #[.int .i64 y.d, .int .i64 y.i, .int .i64 y.k] by rw [← hW4]; exact Blk.new w3 _ _)
        have e0 := E4.out.cell 0; have e1 := E4.out.cell 1; have e2 := E4.out.cell 2
        simp at e0 e1 e2
        go_wp2_with fail
        refine (m8at OK.out g es y.i y.k M4.out (by omega)).mono ?_
        rintro e w5 ⟨hat, hm, hh⟩
        have M5 := Lib.hid hm
        have E5 := Lib.hid (hh.blk E4.out (.inr rfl))
        clear hm hh e0 e1 e2 hW4
        have e0 := E5.out.cell 0; have e1 := E5.out.cell 1; have e2 := E5.out.cell 2
        simp at e0 e1 e2
        rcases hat with ⟨hp, rfl⟩ | ⟨k, x, hp, hx, rfl⟩
        · go_wp2_with fail
          refine (m8len OK.out g es M5.out (by omega)).mono ?_
          rintro e w6 ⟨rfl, hm, hh⟩
          have M6 := Lib.hid hm
          have E6 := Lib.hid (hh.blk E5.out (.inr rfl))
          clear hm hh e0 e1 e2
          have e0 := E6.out.cell 0; have e1 := E6.out.cell 1; have e2 := E6.out.cell 2
          simp at e0 e1 e2
          go_wp2_with fail
          refine (m8drop OK.out g es y.i y.k M6.out (by omega)).mono ?_
          rintro e w7 (⟨_, rfl, hm, hh⟩ | ⟨k, x, h, _⟩)
          rotate_left
          · rw [hp] at h; omega
          have M8 := Lib.hid (hm.next OK.out (wbox _ (Obj.cells #[.int .i64 0, .int .i64 0, .int .i64 0] 31)))
          have E8 := Lib.hid ((hh.blk E6.out (.inr rfl)).below (wbox _ (Obj.cells #[.int .i64 0, .int .i64 0, .int .i64 0] 31)))
          have PNN := Lib.hid hp
          have LB := Lib.hid (show es.length ≤ 500 by omega)
          have LB2 := Lib.hid (show es.length ≤ 400 by omega)
          have DD := Lib.hid D.out
          clear hm hh e0 e1 e2 hp
          have e0 := E8.out.cell 0; have e1 := E8.out.cell 1; have e2 := E8.out.cell 2
          simp only [List.getElem?_toArray, List.getElem?_cons_zero, List.getElem?_cons_succ] at e0 e1 e2
          have PN := Lib.hid (show placeV (es) y.i y.k = -1 from PNN.out)
          go_wp2_with fail
          refine (m8put OK.out g (es) y M8.out LB.out).mono ?_
          rintro e w9 (⟨h, _⟩ | ⟨_, h, _⟩ | ⟨_, _, rfl, hm, hh⟩)
          · exact absurd h YG.out
          · exact absurd h (by rw [PN.out]; decide)
          have M9 := Lib.hid hm
          have E9 := Lib.hid (hh.blk E8.out (.inr rfl))
          clear hm hh
          have e0 := E9.out.cell 0; have e1 := E9.out.cell 1; have e2 := E9.out.cell 2
          simp at e0 e1 e2
          obtain ⟨L, hL⟩ : ∃ L, insV y (es) = L := ⟨_, rfl⟩
          have PP := Lib.hid (show 0 ≤ placeV L y.i y.k from hL ▸ placeV_pos (mem_insV.mpr (.inl rfl)) (isE_self y))
          have K1 := Lib.hid (show keyN L y.i y.k L.length = 1 from hL ▸ keyN_one PN.out)
          have LL := Lib.hid (show L.length ≤ 500 by have := insV_len y (es); have := LB2.out; rw [hL] at *; omega)
          have DN := Lib.hid (show dueN L 99 = L.length from dueN_whole (fun z hz => by
            rw [← hL] at hz
            rcases mem_insV.mp hz with rfl | hz
            · have := YB.out.1.2; omega
            · have := DD.out z hz; omega))
          rw [hL] at M9
          clear hL
          go_wp2_with fail
          refine (m8put OK.out g L y M9.out LL.out).mono ?_
          rintro e w10 (⟨h, _⟩ | ⟨_, _, rfl, hm, hh⟩ | ⟨_, h, _⟩)
          · exact absurd h YG.out
          rotate_left
          · exact absurd PP.out (by rw [h]; decide)
          have M10 := Lib.hid hm
          have E10 := Lib.hid (hh.blk E9.out (.inr rfl))
          clear hm hh e0 e1 e2
          go_wp2_with fail
          refine (m8due OK.out g L 99 M10.out LL.out).mono ?_
          rintro e w11 ⟨a2, cap2, rfl, hr, _, _, hm, hh⟩
          rw [DN.out] at hr ⊢
          obtain ⟨n, hn⟩ : ∃ n, L.length = n := ⟨_, rfl⟩
          rw [hn] at hr K1 LL ⊢
          have NN := Lib.hid hn
          have R11 := Lib.hid (show RowV w11 a2 n cap2 L by rw [List.take_of_length_le (by rw [hn]; exact Nat.le_refl _)] at hr; exact hr)
          have E11 := Lib.hid (hh.blk E10.out (.inr rfl))
          have B11 := Lib.hid (below_next B0.out hm.below)
          have LLL := LL.out
          have rc := R11.out.cap_le
          clear hr hm hh hn
          go_wp2
          go_loopw [17, 18] (fun v u wr => ∃ j : Nat, u = .int .i64 j ∧ j ≤ n ∧ v = .int .i64 (keyN L y.i y.k j : Nat) ∧ Below w11.heap.size w11 wr) (fun _ u _ => n - (intOf u).toNat)
          case atStart => exact ⟨0, rfl, by omega, by rw [keyN_zero]; rfl, Below.refl _ _⟩
          case round =>
            obtain ⟨j, rfl, jl, rfl, hbel⟩ := hrel
            have BJ := Lib.hid hbel
            clear hbel
            have kl := keyN_le L y.i y.k j
            by_cases go : j < n
            · have b6 : decide (j < n) = true := by simp; omega
              have b7 : decide ((j : Int) < (n : Int)) = true := by simp; omega
              obtain ⟨x, hx⟩ := getV (es := L) (i := j) (by rw [NN.out]; exact go)
              have KN := Lib.hid (keyN_next (id := y.i) (kind := y.k) hx)
              obtain ⟨bk, ok, rfl, hat⟩ := R11.out.at hx
              have XA := Lib.hid (hat.below BJ.out)
              have EJ := Lib.hid (E11.out.below BJ.out)
              obtain ⟨c, hc⟩ : ∃ c, keyN L y.i y.k j = c := ⟨_, rfl⟩
              rw [hc] at KN kl ⊢
              clear hx hat hc
              have j1 : (j : Int) < (n : Int) := by omega
              have j2 : 0 ≤ (j : Int) := by omega
              go_upto_region 24 with fail
              have KEPT := Lib.hid (show ∀ w' : World, Below wr.heap.size wr w' → w'.cell? ⟨bk, ok + j * 3 + 1, none⟩ = some (.int .i64 x.i) ∧ w'.cell? ⟨bk, ok + j * 3 + 2, none⟩ = some (.int .i64 x.k) ∧ w'.cell? ⟨w3.heap.size, 1, none⟩ = some (.int .i64 y.i) ∧ w'.cell? ⟨w3.heap.size, 2, none⟩ = some (.int .i64 y.k) from fun w' h => ⟨(XA.out.below h).c1, (XA.out.below h).c2, (EJ.out.below h).cell 1, (EJ.out.below h).cell 2⟩)
              have BL := Lib.hid ((Below.refl wr.heap.size wr).drew)
              by_cases q1 : x.i = y.i
              · have u1 : (x.i == y.i) = true := by simp [q1]
                by_cases q2 : x.k = y.k
                · have u2 : (x.k == y.k) = true := by simp [q2]
                  have KK := Lib.hid (show keyN L y.i y.k (j + 1) = c + 1 by rw [KN.out]; unfold isE; simp [q1, q2])
                  clear q1 q2
                  go_region_held3 (fun w' => w'.cell? ⟨bk, ok + j * 3 + 1, none⟩ = some (.int .i64 x.i) ∧ w'.cell? ⟨bk, ok + j * 3 + 2, none⟩ = some (.int .i64 x.k) ∧ w'.cell? ⟨w3.heap.size, 1, none⟩ = some (.int .i64 y.i) ∧ w'.cell? ⟨w3.heap.size, 2, none⟩ = some (.int .i64 y.k))
                    (exact KEPT.out _ BL.out)
                    (fail)
                  all_goals
                    go_wp2
                    go_roundw
                    case rel => exact ⟨j + 1, by go_num, by omega, by rw [KK.out]; go_num, below_next BJ.out BL.out⟩
                    case measure => simp [intOf]; omega
                · have u2 : (x.k == y.k) = false := by simp [q2]
                  have KK := Lib.hid (show keyN L y.i y.k (j + 1) = c by rw [KN.out]; unfold isE; simp [q2])
                  clear q1 q2
                  go_region_held3 (fun w' => w'.cell? ⟨bk, ok + j * 3 + 1, none⟩ = some (.int .i64 x.i) ∧ w'.cell? ⟨bk, ok + j * 3 + 2, none⟩ = some (.int .i64 x.k) ∧ w'.cell? ⟨w3.heap.size, 1, none⟩ = some (.int .i64 y.i) ∧ w'.cell? ⟨w3.heap.size, 2, none⟩ = some (.int .i64 y.k))
                    (exact KEPT.out _ BL.out)
                    (fail)
                  all_goals
                    go_wp2
                    go_roundw
                    case rel => exact ⟨j + 1, by go_num, by omega, by rw [KK.out], below_next BJ.out BL.out⟩
                    case measure => simp [intOf]; omega
              · have u1 : (x.i == y.i) = false := by simp [q1]
                have KK := Lib.hid (show keyN L y.i y.k (j + 1) = c by rw [KN.out]; unfold isE; simp [q1])
                clear q1
                refine wp_region_noPanic ?_
                refine wp_region_held_drew (S := fun w' => w'.cell? ⟨bk, ok + j * 3 + 1, none⟩ = some (.int .i64 x.i) ∧ w'.cell? ⟨bk, ok + j * 3 + 2, none⟩ = some (.int .i64 x.k) ∧ w'.cell? ⟨w3.heap.size, 1, none⟩ = some (.int .i64 y.i) ∧ w'.cell? ⟨w3.heap.size, 2, none⟩ = some (.int .i64 y.k)) (by kernel_rfl) (KEPT.out _ BL.out) (fun hHeld => ?_)
                refine' takeY (i := 0) (oi := _) (v := _) ?hia0 (by kernel_rfl) (by kernel_rfl) (by kernel_rfl) (fun _ _ _ h => h) ?hwa0 ?hya0 hHeld ?resta0
                case hia0 => (simp only [List.getElem?_toArray, List.getElem?_cons_zero]; rfl)
                case hwa0 => rfl
                case hya0 => (intro w hSw; (try dsimp only at hSw); go_simp; try with_reducible rfl)
                try simp only [Act.put, List.setIfInBounds_toArray, List.set_cons_zero, List.set_cons_succ]
                refine' takeY (i := 1) (oi := _) (v := _) ?hia1 (by kernel_rfl) (by kernel_rfl) (by kernel_rfl) (fun _ _ _ h => h) ?hwa1 ?hya1 hHeld ?resta1
                case hia1 => (simp only [List.getElem?_toArray, List.getElem?_cons_succ, List.getElem?_cons_zero]; rfl)
                case hwa1 => rfl
                case hya1 => (intro w hSw; (try dsimp only at hSw); go_simp; try with_reducible rfl)
                try simp only [Act.put, List.setIfInBounds_toArray, List.set_cons_zero, List.set_cons_succ]
                refine' takeY (i := 2) (oi := _) (v := _) ?hia2 (by kernel_rfl) (by kernel_rfl) (by kernel_rfl) (fun _ _ _ h => h) ?hwa2 ?hya2 hHeld ?resta2
                case hia2 => (simp only [List.getElem?_toArray, List.getElem?_cons_succ, List.getElem?_cons_zero]; rfl)
                case hwa2 => rfl
                case hya2 => (intro w hSw; (try dsimp only at hSw); go_simp; try with_reducible rfl)
                try simp only [Act.put, List.setIfInBounds_toArray, List.set_cons_zero, List.set_cons_succ]
                refine' takeY (i := 3) (oi := _) (v := _) ?hia3 (by kernel_rfl) (by kernel_rfl) (by kernel_rfl) (fun _ _ _ h => h) ?hwa3 ?hya3 hHeld ?resta3
                case hia3 => (simp only [List.getElem?_toArray, List.getElem?_cons_succ, List.getElem?_cons_zero]; rfl)
                case hwa3 => rfl
                case hya3 => (intro w hSw; (try dsimp only at hSw); go_simp; try with_reducible rfl)
                try simp only [Act.put, List.setIfInBounds_toArray, List.set_cons_zero, List.set_cons_succ]
                refine' takeY (i := 4) (oi := _) (v := _) ?hia4 (by kernel_rfl) (by kernel_rfl) (by kernel_rfl) (fun _ _ _ h => h) ?hwa4 ?hya4 hHeld ?resta4
                case hia4 => (simp only [List.getElem?_toArray, List.getElem?_cons_succ, List.getElem?_cons_zero]; rfl)
                case hwa4 => rfl
                case hya4 => (intro w hSw; (try dsimp only at hSw); go_simp; try with_reducible rfl)
                try simp only [Act.put, List.setIfInBounds_toArray, List.set_cons_zero, List.set_cons_succ]
                refine' takeY (i := 5) (oi := _) (v := _) ?hia5 (by kernel_rfl) (by kernel_rfl) (by kernel_rfl) (fun _ _ _ h => h) ?hwa5 ?hya5 hHeld ?resta5
                case hia5 => (simp only [List.getElem?_toArray, List.getElem?_cons_succ, List.getElem?_cons_zero]; rfl)
                case hwa5 => rfl
                case hya5 => (intro w hSw; (try dsimp only at hSw); go_simp; try with_reducible rfl)
                try simp only [Act.put, List.setIfInBounds_toArray, List.set_cons_zero, List.set_cons_succ]
                refine' takeY (i := 6) (oi := _) (v := _) ?hia6 (by kernel_rfl) (by kernel_rfl) (by kernel_rfl) (fun _ _ _ h => h) ?hwa6 ?hya6 hHeld ?resta6
                case hia6 => (simp only [List.getElem?_toArray, List.getElem?_cons_succ, List.getElem?_cons_zero]; rfl)
                case hwa6 => rfl
                case hya6 => (intro w hSw; (try dsimp only at hSw); go_simp; try with_reducible rfl)
                try simp only [Act.put, List.setIfInBounds_toArray, List.set_cons_zero, List.set_cons_succ]
                refine' takeY (i := 7) (oi := _) (v := _) ?hia7 (by kernel_rfl) (by kernel_rfl) (by kernel_rfl) (fun _ _ _ h => h) ?hwa7 ?hya7 hHeld ?resta7
                case hia7 => (simp only [List.getElem?_toArray, List.getElem?_cons_succ, List.getElem?_cons_zero]; rfl)
                case hwa7 => rfl
                case hya7 => (intro w hSw; (try dsimp only at hSw); go_simp; try with_reducible rfl)
                try simp only [Act.put, List.setIfInBounds_toArray, List.set_cons_zero, List.set_cons_succ]
                refine' takeY (i := 8) (oi := _) (v := _) ?hia8 (by kernel_rfl) (by kernel_rfl) (by kernel_rfl) (fun _ _ _ h => h) ?hwa8 ?hya8 hHeld ?resta8
                case hia8 => (simp only [List.getElem?_toArray, List.getElem?_cons_succ, List.getElem?_cons_zero]; rfl)
                case hwa8 => rfl
                case hya8 => (intro w hSw; (try dsimp only at hSw); go_simp; try with_reducible rfl)
                try simp only [Act.put, List.setIfInBounds_toArray, List.set_cons_zero, List.set_cons_succ]
                refine' takeN (i := 9) (oi := _) ?hia9 (by kernel_rfl) (by kernel_rfl) (by kernel_rfl) (fun _ _ _ h => h) ?hwa9 hHeld ?resta9
                case hia9 => (simp only [List.getElem?_toArray, List.getElem?_cons_succ, List.getElem?_cons_zero]; rfl)
                case hwa9 => rfl
                try simp only [Act.put, List.setIfInBounds_toArray, List.set_cons_zero, List.set_cons_succ]
                refine' takeN (i := 10) (oi := _) ?hia10 (by kernel_rfl) (by kernel_rfl) (by kernel_rfl) (fun _ _ _ h => h) ?hwa10 hHeld ?resta10
                case hia10 => (simp only [List.getElem?_toArray, List.getElem?_cons_succ, List.getElem?_cons_zero]; rfl)
                case hwa10 => rfl
                try simp only [Act.put, List.setIfInBounds_toArray, List.set_cons_zero, List.set_cons_succ]
                refine' takeN (i := 11) (oi := _) ?hia11 (by kernel_rfl) (by kernel_rfl) (by kernel_rfl) (fun _ _ _ h => h) ?hwa11 hHeld ?resta11
                case hia11 => (simp only [List.getElem?_toArray, List.getElem?_cons_succ, List.getElem?_cons_zero]; rfl)
                case hwa11 => rfl
                try simp only [Act.put, List.setIfInBounds_toArray, List.set_cons_zero, List.set_cons_succ]
                refine' takeN (i := 12) (oi := _) ?hia12 (by kernel_rfl) (by kernel_rfl) (by kernel_rfl) (fun _ _ _ h => h) ?hwa12 hHeld ?resta12
                case hia12 => (simp only [List.getElem?_toArray, List.getElem?_cons_succ, List.getElem?_cons_zero]; rfl)
                case hwa12 => rfl
                try simp only [Act.put, List.setIfInBounds_toArray, List.set_cons_zero, List.set_cons_succ]
                refine' takeN (i := 13) (oi := _) ?hia13 (by kernel_rfl) (by kernel_rfl) (by kernel_rfl) (fun _ _ _ h => h) ?hwa13 hHeld ?resta13
                case hia13 => (simp only [List.getElem?_toArray, List.getElem?_cons_succ, List.getElem?_cons_zero]; rfl)
                case hwa13 => rfl
                try simp only [Act.put, List.setIfInBounds_toArray, List.set_cons_zero, List.set_cons_succ]
                refine' takeN (i := 14) (oi := _) ?hia14 (by kernel_rfl) (by kernel_rfl) (by kernel_rfl) (fun _ _ _ h => h) ?hwa14 hHeld ?resta14
                case hia14 => (simp only [List.getElem?_toArray, List.getElem?_cons_succ, List.getElem?_cons_zero]; rfl)
                case hwa14 => rfl
                try simp only [Act.put, List.setIfInBounds_toArray, List.set_cons_zero, List.set_cons_succ]
                refine' takeN (i := 15) (oi := _) ?hia15 (by kernel_rfl) (by kernel_rfl) (by kernel_rfl) (fun _ _ _ h => h) ?hwa15 hHeld ?resta15
                case hia15 => (simp only [List.getElem?_toArray, List.getElem?_cons_succ, List.getElem?_cons_zero]; rfl)
                case hwa15 => rfl
                try simp only [Act.put, List.setIfInBounds_toArray, List.set_cons_zero, List.set_cons_succ]
                refine' takeN (i := 16) (oi := _) ?hia16 (by kernel_rfl) (by kernel_rfl) (by kernel_rfl) (fun _ _ _ h => h) ?hwa16 hHeld ?resta16
                case hia16 => (simp only [List.getElem?_toArray, List.getElem?_cons_succ, List.getElem?_cons_zero]; rfl)
                case hwa16 => rfl
                try simp only [Act.put, List.setIfInBounds_toArray, List.set_cons_zero, List.set_cons_succ]
                refine' takeY (i := 17) (oi := _) (v := _) ?hia17 (by kernel_rfl) (by kernel_rfl) (by kernel_rfl) (fun _ _ _ h => h) ?hwa17 ?hya17 hHeld ?resta17
                case hia17 => (simp only [List.getElem?_toArray, List.getElem?_cons_succ, List.getElem?_cons_zero]; rfl)
                case hwa17 => rfl
                case hya17 => (intro w hSw; (try dsimp only at hSw); go_simp; try with_reducible rfl)
                try simp only [Act.put, List.setIfInBounds_toArray, List.set_cons_zero, List.set_cons_succ]
                refine wpAnyH_done (by kernel_rfl) ?_ _
                refine NoPanic.normal ?_
                go_wp2
                go_roundw
                case rel => exact ⟨j + 1, by go_num, by omega, by rw [KK.out], below_next BJ.out BL.out⟩
                case measure => simp [intOf]; omega
            · have b6 : decide (j < n) = false := by simp; omega
              have b7 : decide ((j : Int) < (n : Int)) = false := by simp; omega
              obtain rfl : j = n := by omega
              rw [K1.out]
              go_wp2
              go_ret
              exact ⟨rfl, below_next B11.out BJ.out⟩
        · obtain ⟨xi, xk⟩ := placeV_is hp hx
          have DG := Lib.hid (dropped_gone (Mine8.own OK.out M5.out) hp hx)
          obtain ⟨xd, xi', xk'⟩ := x
          simp only at xi xk
          subst xi
          subst xk
          go_wp2_with fail
          refine (m8len OK.out g es M5.out (by omega)).mono ?_
          rintro e w6 ⟨rfl, hm, hh⟩
          have M6 := Lib.hid hm
          have E6 := Lib.hid (hh.blk E5.out (.inr rfl))
          clear hm hh e0 e1 e2
          have e0 := E6.out.cell 0; have e1 := E6.out.cell 1; have e2 := E6.out.cell 2
          simp at e0 e1 e2
          go_wp2_with fail
          refine (m8drop OK.out g es y.i y.k M6.out (by omega)).mono ?_
          rintro e w7 (⟨h, _⟩ | ⟨k', x', h, hx', rfl, hm, hh⟩)
          · rw [hp] at h; omega
          obtain rfl : k = k' := by rw [hp] at h; omega
          obtain rfl : (⟨xd, y.i, y.k⟩ : Ev) = x' := by rw [hx] at hx'; simpa using hx'
          have kl : k < es.length := by
            rcases Nat.lt_or_ge k es.length with q | q
            · exact q
            · rw [List.getElem?_eq_none q] at hx; cases hx
          have EL := Lib.hid (show (es.eraseIdx k).length + 1 = es.length by rw [List.length_eraseIdx_of_lt kl]; omega)
          have M7 := Lib.hid (hm.next OK.out (wbox _ (Obj.cells #[.int .i64 xd, .int .i64 y.i, .int .i64 y.k] 31)))
          have E7 := Lib.hid ((hh.blk E6.out (.inr rfl)).below (wbox _ (Obj.cells #[.int .i64 xd, .int .i64 y.i, .int .i64 y.k] 31)))
          have PNN := Lib.hid DG.out
          have LB := Lib.hid (show (es.eraseIdx k).length ≤ 500 by have := EL.out; omega)
          have LB2 := Lib.hid (show (es.eraseIdx k).length ≤ 400 by have := EL.out; omega)
          have DD := Lib.hid (show ∀ z ∈ es.eraseIdx k, z.d ≤ 15 from fun z hz => D.out z (List.mem_of_mem_eraseIdx hz))
          obtain ⟨m, hm'⟩ : ∃ m, es.length = m := ⟨_, rfl⟩
          rw [hm'] at EL e30 ⊢
          obtain ⟨m', hm''⟩ : ∃ m', (es.eraseIdx k).length = m' := ⟨_, rfl⟩
          have ML := Lib.hid hm''
          have v1 : m' + 1 = m := by rw [← hm'']; exact EL.out
          have v2 : ((m' : Int) != (m : Int) - 1) = false := by simp; omega
          have m0 : 1 ≤ m := by omega
          clear hm hh e0 e1 e2 hp hx h hx' hm' hm'' el
          have e0 := E7.out.cell 0; have e1 := E7.out.cell 1; have e2 := E7.out.cell 2
          simp only [List.getElem?_toArray, List.getElem?_cons_zero, List.getElem?_cons_succ] at e0 e1 e2
          go_wp2_with fail
          refine (m8len OK.out g (es.eraseIdx k) M7.out LB.out).mono ?_
          rintro e w8 ⟨rfl, hm, hh⟩
          rw [ML.out]
          have M8 := Lib.hid hm
          have E8 := Lib.hid (hh.blk E7.out (.inr rfl))
          clear hm hh e0 e1 e2
          have e0 := E8.out.cell 0; have e1 := E8.out.cell 1; have e2 := E8.out.cell 2
          simp at e0 e1 e2
          have PN := Lib.hid (show placeV (es.eraseIdx k) y.i y.k = -1 from PNN.out)
          go_wp2_with fail
          refine (m8put OK.out g (es.eraseIdx k) y M8.out LB.out).mono ?_
          rintro e w9 (⟨h, _⟩ | ⟨_, h, _⟩ | ⟨_, _, rfl, hm, hh⟩)
          · exact absurd h YG.out
          · exact absurd h (by rw [PN.out]; decide)
          have M9 := Lib.hid hm
          have E9 := Lib.hid (hh.blk E8.out (.inr rfl))
          clear hm hh
          have e0 := E9.out.cell 0; have e1 := E9.out.cell 1; have e2 := E9.out.cell 2
          simp at e0 e1 e2
          obtain ⟨L, hL⟩ : ∃ L, insV y (es.eraseIdx k) = L := ⟨_, rfl⟩
          have PP := Lib.hid (show 0 ≤ placeV L y.i y.k from hL ▸ placeV_pos (mem_insV.mpr (.inl rfl)) (isE_self y))
          have K1 := Lib.hid (show keyN L y.i y.k L.length = 1 from hL ▸ keyN_one PN.out)
          have LL := Lib.hid (show L.length ≤ 500 by have := insV_len y (es.eraseIdx k); have := LB2.out; rw [hL] at *; omega)
          have DN := Lib.hid (show dueN L 99 = L.length from dueN_whole (fun z hz => by
            rw [← hL] at hz
            rcases mem_insV.mp hz with rfl | hz
            · have := YB.out.1.2; omega
            · have := DD.out z hz; omega))
          rw [hL] at M9
          clear hL
          go_wp2_with fail
          refine (m8put OK.out g L y M9.out LL.out).mono ?_
          rintro e w10 (⟨h, _⟩ | ⟨_, _, rfl, hm, hh⟩ | ⟨_, h, _⟩)
          · exact absurd h YG.out
          rotate_left
          · exact absurd PP.out (by rw [h]; decide)
          have M10 := Lib.hid hm
          have E10 := Lib.hid (hh.blk E9.out (.inr rfl))
          clear hm hh e0 e1 e2
          go_wp2_with fail
          refine (m8due OK.out g L 99 M10.out LL.out).mono ?_
          rintro e w11 ⟨a2, cap2, rfl, hr, _, _, hm, hh⟩
          rw [DN.out] at hr ⊢
          obtain ⟨n, hn⟩ : ∃ n, L.length = n := ⟨_, rfl⟩
          rw [hn] at hr K1 LL ⊢
          have NN := Lib.hid hn
          have R11 := Lib.hid (show RowV w11 a2 n cap2 L by rw [List.take_of_length_le (by rw [hn]; exact Nat.le_refl _)] at hr; exact hr)
          have E11 := Lib.hid (hh.blk E10.out (.inr rfl))
          have B11 := Lib.hid (below_next B0.out hm.below)
          have LLL := LL.out
          have rc := R11.out.cap_le
          clear hr hm hh hn
          go_wp2
          go_loopw [17, 18] (fun v u wr => ∃ j : Nat, u = .int .i64 j ∧ j ≤ n ∧ v = .int .i64 (keyN L y.i y.k j : Nat) ∧ Below w11.heap.size w11 wr) (fun _ u _ => n - (intOf u).toNat)
          case atStart => exact ⟨0, rfl, by omega, by rw [keyN_zero]; rfl, Below.refl _ _⟩
          case round =>
            obtain ⟨j, rfl, jl, rfl, hbel⟩ := hrel
            have BJ := Lib.hid hbel
            clear hbel
            have kl := keyN_le L y.i y.k j
            by_cases go : j < n
            · have b6 : decide (j < n) = true := by simp; omega
              have b7 : decide ((j : Int) < (n : Int)) = true := by simp; omega
              obtain ⟨x, hx⟩ := getV (es := L) (i := j) (by rw [NN.out]; exact go)
              have KN := Lib.hid (keyN_next (id := y.i) (kind := y.k) hx)
              obtain ⟨bk, ok, rfl, hat⟩ := R11.out.at hx
              have XA := Lib.hid (hat.below BJ.out)
              have EJ := Lib.hid (E11.out.below BJ.out)
              obtain ⟨c, hc⟩ : ∃ c, keyN L y.i y.k j = c := ⟨_, rfl⟩
              rw [hc] at KN kl ⊢
              clear hx hat hc
              have j1 : (j : Int) < (n : Int) := by omega
              have j2 : 0 ≤ (j : Int) := by omega
              go_upto_region 24 with fail
              have KEPT := Lib.hid (show ∀ w' : World, Below wr.heap.size wr w' → w'.cell? ⟨bk, ok + j * 3 + 1, none⟩ = some (.int .i64 x.i) ∧ w'.cell? ⟨bk, ok + j * 3 + 2, none⟩ = some (.int .i64 x.k) ∧ w'.cell? ⟨w3.heap.size, 1, none⟩ = some (.int .i64 y.i) ∧ w'.cell? ⟨w3.heap.size, 2, none⟩ = some (.int .i64 y.k) from fun w' h => ⟨(XA.out.below h).c1, (XA.out.below h).c2, (EJ.out.below h).cell 1, (EJ.out.below h).cell 2⟩)
              have BL := Lib.hid ((Below.refl wr.heap.size wr).drew)
              by_cases q1 : x.i = y.i
              · have u1 : (x.i == y.i) = true := by simp [q1]
                by_cases q2 : x.k = y.k
                · have u2 : (x.k == y.k) = true := by simp [q2]
                  have KK := Lib.hid (show keyN L y.i y.k (j + 1) = c + 1 by rw [KN.out]; unfold isE; simp [q1, q2])
                  clear q1 q2
                  go_region_held3 (fun w' => w'.cell? ⟨bk, ok + j * 3 + 1, none⟩ = some (.int .i64 x.i) ∧ w'.cell? ⟨bk, ok + j * 3 + 2, none⟩ = some (.int .i64 x.k) ∧ w'.cell? ⟨w3.heap.size, 1, none⟩ = some (.int .i64 y.i) ∧ w'.cell? ⟨w3.heap.size, 2, none⟩ = some (.int .i64 y.k))
                    (exact KEPT.out _ BL.out)
                    (fail)
                  all_goals
                    go_wp2
                    go_roundw
                    case rel => exact ⟨j + 1, by go_num, by omega, by rw [KK.out]; go_num, below_next BJ.out BL.out⟩
                    case measure => simp [intOf]; omega
                · have u2 : (x.k == y.k) = false := by simp [q2]
                  have KK := Lib.hid (show keyN L y.i y.k (j + 1) = c by rw [KN.out]; unfold isE; simp [q2])
                  clear q1 q2
                  go_region_held3 (fun w' => w'.cell? ⟨bk, ok + j * 3 + 1, none⟩ = some (.int .i64 x.i) ∧ w'.cell? ⟨bk, ok + j * 3 + 2, none⟩ = some (.int .i64 x.k) ∧ w'.cell? ⟨w3.heap.size, 1, none⟩ = some (.int .i64 y.i) ∧ w'.cell? ⟨w3.heap.size, 2, none⟩ = some (.int .i64 y.k))
                    (exact KEPT.out _ BL.out)
                    (fail)
                  all_goals
                    go_wp2
                    go_roundw
                    case rel => exact ⟨j + 1, by go_num, by omega, by rw [KK.out], below_next BJ.out BL.out⟩
                    case measure => simp [intOf]; omega
              · have u1 : (x.i == y.i) = false := by simp [q1]
                have KK := Lib.hid (show keyN L y.i y.k (j + 1) = c by rw [KN.out]; unfold isE; simp [q1])
                clear q1
                refine wp_region_noPanic ?_
                refine wp_region_held_drew (S := fun w' => w'.cell? ⟨bk, ok + j * 3 + 1, none⟩ = some (.int .i64 x.i) ∧ w'.cell? ⟨bk, ok + j * 3 + 2, none⟩ = some (.int .i64 x.k) ∧ w'.cell? ⟨w3.heap.size, 1, none⟩ = some (.int .i64 y.i) ∧ w'.cell? ⟨w3.heap.size, 2, none⟩ = some (.int .i64 y.k)) (by kernel_rfl) (KEPT.out _ BL.out) (fun hHeld => ?_)
                refine' takeY (i := 0) (oi := _) (v := _) ?hib0 (by kernel_rfl) (by kernel_rfl) (by kernel_rfl) (fun _ _ _ h => h) ?hwb0 ?hyb0 hHeld ?restb0
                case hib0 => (simp only [List.getElem?_toArray, List.getElem?_cons_zero]; rfl)
                case hwb0 => rfl
                case hyb0 => (intro w hSw; (try dsimp only at hSw); go_simp; try with_reducible rfl)
                try simp only [Act.put, List.setIfInBounds_toArray, List.set_cons_zero, List.set_cons_succ]
                refine' takeY (i := 1) (oi := _) (v := _) ?hib1 (by kernel_rfl) (by kernel_rfl) (by kernel_rfl) (fun _ _ _ h => h) ?hwb1 ?hyb1 hHeld ?restb1
                case hib1 => (simp only [List.getElem?_toArray, List.getElem?_cons_succ, List.getElem?_cons_zero]; rfl)
                case hwb1 => rfl
                case hyb1 => (intro w hSw; (try dsimp only at hSw); go_simp; try with_reducible rfl)
                try simp only [Act.put, List.setIfInBounds_toArray, List.set_cons_zero, List.set_cons_succ]
                refine' takeY (i := 2) (oi := _) (v := _) ?hib2 (by kernel_rfl) (by kernel_rfl) (by kernel_rfl) (fun _ _ _ h => h) ?hwb2 ?hyb2 hHeld ?restb2
                case hib2 => (simp only [List.getElem?_toArray, List.getElem?_cons_succ, List.getElem?_cons_zero]; rfl)
                case hwb2 => rfl
                case hyb2 => (intro w hSw; (try dsimp only at hSw); go_simp; try with_reducible rfl)
                try simp only [Act.put, List.setIfInBounds_toArray, List.set_cons_zero, List.set_cons_succ]
                refine' takeY (i := 3) (oi := _) (v := _) ?hib3 (by kernel_rfl) (by kernel_rfl) (by kernel_rfl) (fun _ _ _ h => h) ?hwb3 ?hyb3 hHeld ?restb3
                case hib3 => (simp only [List.getElem?_toArray, List.getElem?_cons_succ, List.getElem?_cons_zero]; rfl)
                case hwb3 => rfl
                case hyb3 => (intro w hSw; (try dsimp only at hSw); go_simp; try with_reducible rfl)
                try simp only [Act.put, List.setIfInBounds_toArray, List.set_cons_zero, List.set_cons_succ]
                refine' takeY (i := 4) (oi := _) (v := _) ?hib4 (by kernel_rfl) (by kernel_rfl) (by kernel_rfl) (fun _ _ _ h => h) ?hwb4 ?hyb4 hHeld ?restb4
                case hib4 => (simp only [List.getElem?_toArray, List.getElem?_cons_succ, List.getElem?_cons_zero]; rfl)
                case hwb4 => rfl
                case hyb4 => (intro w hSw; (try dsimp only at hSw); go_simp; try with_reducible rfl)
                try simp only [Act.put, List.setIfInBounds_toArray, List.set_cons_zero, List.set_cons_succ]
                refine' takeY (i := 5) (oi := _) (v := _) ?hib5 (by kernel_rfl) (by kernel_rfl) (by kernel_rfl) (fun _ _ _ h => h) ?hwb5 ?hyb5 hHeld ?restb5
                case hib5 => (simp only [List.getElem?_toArray, List.getElem?_cons_succ, List.getElem?_cons_zero]; rfl)
                case hwb5 => rfl
                case hyb5 => (intro w hSw; (try dsimp only at hSw); go_simp; try with_reducible rfl)
                try simp only [Act.put, List.setIfInBounds_toArray, List.set_cons_zero, List.set_cons_succ]
                refine' takeY (i := 6) (oi := _) (v := _) ?hib6 (by kernel_rfl) (by kernel_rfl) (by kernel_rfl) (fun _ _ _ h => h) ?hwb6 ?hyb6 hHeld ?restb6
                case hib6 => (simp only [List.getElem?_toArray, List.getElem?_cons_succ, List.getElem?_cons_zero]; rfl)
                case hwb6 => rfl
                case hyb6 => (intro w hSw; (try dsimp only at hSw); go_simp; try with_reducible rfl)
                try simp only [Act.put, List.setIfInBounds_toArray, List.set_cons_zero, List.set_cons_succ]
                refine' takeY (i := 7) (oi := _) (v := _) ?hib7 (by kernel_rfl) (by kernel_rfl) (by kernel_rfl) (fun _ _ _ h => h) ?hwb7 ?hyb7 hHeld ?restb7
                case hib7 => (simp only [List.getElem?_toArray, List.getElem?_cons_succ, List.getElem?_cons_zero]; rfl)
                case hwb7 => rfl
                case hyb7 => (intro w hSw; (try dsimp only at hSw); go_simp; try with_reducible rfl)
                try simp only [Act.put, List.setIfInBounds_toArray, List.set_cons_zero, List.set_cons_succ]
                refine' takeY (i := 8) (oi := _) (v := _) ?hib8 (by kernel_rfl) (by kernel_rfl) (by kernel_rfl) (fun _ _ _ h => h) ?hwb8 ?hyb8 hHeld ?restb8
                case hib8 => (simp only [List.getElem?_toArray, List.getElem?_cons_succ, List.getElem?_cons_zero]; rfl)
                case hwb8 => rfl
                case hyb8 => (intro w hSw; (try dsimp only at hSw); go_simp; try with_reducible rfl)
                try simp only [Act.put, List.setIfInBounds_toArray, List.set_cons_zero, List.set_cons_succ]
                refine' takeN (i := 9) (oi := _) ?hib9 (by kernel_rfl) (by kernel_rfl) (by kernel_rfl) (fun _ _ _ h => h) ?hwb9 hHeld ?restb9
                case hib9 => (simp only [List.getElem?_toArray, List.getElem?_cons_succ, List.getElem?_cons_zero]; rfl)
                case hwb9 => rfl
                try simp only [Act.put, List.setIfInBounds_toArray, List.set_cons_zero, List.set_cons_succ]
                refine' takeN (i := 10) (oi := _) ?hib10 (by kernel_rfl) (by kernel_rfl) (by kernel_rfl) (fun _ _ _ h => h) ?hwb10 hHeld ?restb10
                case hib10 => (simp only [List.getElem?_toArray, List.getElem?_cons_succ, List.getElem?_cons_zero]; rfl)
                case hwb10 => rfl
                try simp only [Act.put, List.setIfInBounds_toArray, List.set_cons_zero, List.set_cons_succ]
                refine' takeN (i := 11) (oi := _) ?hib11 (by kernel_rfl) (by kernel_rfl) (by kernel_rfl) (fun _ _ _ h => h) ?hwb11 hHeld ?restb11
                case hib11 => (simp only [List.getElem?_toArray, List.getElem?_cons_succ, List.getElem?_cons_zero]; rfl)
                case hwb11 => rfl
                try simp only [Act.put, List.setIfInBounds_toArray, List.set_cons_zero, List.set_cons_succ]
                refine' takeN (i := 12) (oi := _) ?hib12 (by kernel_rfl) (by kernel_rfl) (by kernel_rfl) (fun _ _ _ h => h) ?hwb12 hHeld ?restb12
                case hib12 => (simp only [List.getElem?_toArray, List.getElem?_cons_succ, List.getElem?_cons_zero]; rfl)
                case hwb12 => rfl
                try simp only [Act.put, List.setIfInBounds_toArray, List.set_cons_zero, List.set_cons_succ]
                refine' takeN (i := 13) (oi := _) ?hib13 (by kernel_rfl) (by kernel_rfl) (by kernel_rfl) (fun _ _ _ h => h) ?hwb13 hHeld ?restb13
                case hib13 => (simp only [List.getElem?_toArray, List.getElem?_cons_succ, List.getElem?_cons_zero]; rfl)
                case hwb13 => rfl
                try simp only [Act.put, List.setIfInBounds_toArray, List.set_cons_zero, List.set_cons_succ]
                refine' takeN (i := 14) (oi := _) ?hib14 (by kernel_rfl) (by kernel_rfl) (by kernel_rfl) (fun _ _ _ h => h) ?hwb14 hHeld ?restb14
                case hib14 => (simp only [List.getElem?_toArray, List.getElem?_cons_succ, List.getElem?_cons_zero]; rfl)
                case hwb14 => rfl
                try simp only [Act.put, List.setIfInBounds_toArray, List.set_cons_zero, List.set_cons_succ]
                refine' takeN (i := 15) (oi := _) ?hib15 (by kernel_rfl) (by kernel_rfl) (by kernel_rfl) (fun _ _ _ h => h) ?hwb15 hHeld ?restb15
                case hib15 => (simp only [List.getElem?_toArray, List.getElem?_cons_succ, List.getElem?_cons_zero]; rfl)
                case hwb15 => rfl
                try simp only [Act.put, List.setIfInBounds_toArray, List.set_cons_zero, List.set_cons_succ]
                refine' takeN (i := 16) (oi := _) ?hib16 (by kernel_rfl) (by kernel_rfl) (by kernel_rfl) (fun _ _ _ h => h) ?hwb16 hHeld ?restb16
                case hib16 => (simp only [List.getElem?_toArray, List.getElem?_cons_succ, List.getElem?_cons_zero]; rfl)
                case hwb16 => rfl
                try simp only [Act.put, List.setIfInBounds_toArray, List.set_cons_zero, List.set_cons_succ]
                refine' takeY (i := 17) (oi := _) (v := _) ?hib17 (by kernel_rfl) (by kernel_rfl) (by kernel_rfl) (fun _ _ _ h => h) ?hwb17 ?hyb17 hHeld ?restb17
                case hib17 => (simp only [List.getElem?_toArray, List.getElem?_cons_succ, List.getElem?_cons_zero]; rfl)
                case hwb17 => rfl
                case hyb17 => (intro w hSw; (try dsimp only at hSw); go_simp; try with_reducible rfl)
                try simp only [Act.put, List.setIfInBounds_toArray, List.set_cons_zero, List.set_cons_succ]
                refine wpAnyH_done (by kernel_rfl) ?_ _
                refine NoPanic.normal ?_
                go_wp2
                go_roundw
                case rel => exact ⟨j + 1, by go_num, by omega, by rw [KK.out], below_next BJ.out BL.out⟩
                case measure => simp [intOf]; omega
            · have b6 : decide (j < n) = false := by simp; omega
              have b7 : decide ((j : Int) < (n : Int)) = false := by simp; omega
              obtain rfl : j = n := by omega
              rw [K1.out]
              go_wp2
              go_ret
              exact ⟨rfl, below_next B11.out BJ.out⟩
      · skip
        go_wp2_with fail
        refine (EV.out _).mono ?_
        rintro e w3 ⟨rfl, hb⟩
        have M3 := Lib.hid (M.out.next OK.out (below_next (wbox _ _) hb))
        clear hb q0 q1 q2
        obtain ⟨W4, hW4⟩ : ∃ W4, w3.alloc (.cells #[.int .i64 y.d, .int .i64 y.i, .int .i64 y.k] 31) = W4 := ⟨_, rfl⟩
        have M4 := Lib.hid (show Mine8 Hp W0 (fun k => G0 k ∨ k = w3.heap.size) g es W4 by rw [← hW4]; exact M3.out.own1 OK.out _)
        have E4 := Lib.hid (show Blk W4 31 w3.heap.size #[.int .i64 y.d, .int .i64 y.i, .int .i64 y.k] by rw [← hW4]; exact Blk.new w3 _ _)
        have e0 := E4.out.cell 0; have e1 := E4.out.cell 1; have e2 := E4.out.cell 2
        simp at e0 e1 e2
        go_wp2_with fail
        refine (m8at OK.out g es y.i y.k M4.out (by omega)).mono ?_
        rintro e w5 ⟨hat, hm, hh⟩
        have M5 := Lib.hid hm
        have E5 := Lib.hid (hh.blk E4.out (.inr rfl))
        clear hm hh e0 e1 e2 hW4
        have e0 := E5.out.cell 0; have e1 := E5.out.cell 1; have e2 := E5.out.cell 2
        simp at e0 e1 e2
        rcases hat with ⟨hp, rfl⟩ | ⟨k, x, hp, hx, rfl⟩
        · go_wp2_with fail
          refine (m8len OK.out g es M5.out (by omega)).mono ?_
          rintro e w6 ⟨rfl, hm, hh⟩
          have M6 := Lib.hid hm
          have E6 := Lib.hid (hh.blk E5.out (.inr rfl))
          clear hm hh e0 e1 e2
          have e0 := E6.out.cell 0; have e1 := E6.out.cell 1; have e2 := E6.out.cell 2
          simp at e0 e1 e2
          go_wp2_with fail
          refine (m8drop OK.out g es y.i y.k M6.out (by omega)).mono ?_
          rintro e w7 (⟨_, rfl, hm, hh⟩ | ⟨k, x, h, _⟩)
          rotate_left
          · rw [hp] at h; omega
          have M8 := Lib.hid (hm.next OK.out (wbox _ (Obj.cells #[.int .i64 0, .int .i64 0, .int .i64 0] 31)))
          have E8 := Lib.hid ((hh.blk E6.out (.inr rfl)).below (wbox _ (Obj.cells #[.int .i64 0, .int .i64 0, .int .i64 0] 31)))
          have PNN := Lib.hid hp
          have LB := Lib.hid (show es.length ≤ 500 by omega)
          have LB2 := Lib.hid (show es.length ≤ 400 by omega)
          have DD := Lib.hid D.out
          clear hm hh e0 e1 e2 hp
          have e0 := E8.out.cell 0; have e1 := E8.out.cell 1; have e2 := E8.out.cell 2
          simp only [List.getElem?_toArray, List.getElem?_cons_zero, List.getElem?_cons_succ] at e0 e1 e2
          have PN := Lib.hid (show placeV (es) y.i y.k = -1 from PNN.out)
          go_wp2_with fail
          refine (m8put OK.out g (es) y M8.out LB.out).mono ?_
          rintro e w9 (⟨h, _⟩ | ⟨_, h, _⟩ | ⟨_, _, rfl, hm, hh⟩)
          · exact absurd h YG.out
          · exact absurd h (by rw [PN.out]; decide)
          have M9 := Lib.hid hm
          have E9 := Lib.hid (hh.blk E8.out (.inr rfl))
          clear hm hh
          have e0 := E9.out.cell 0; have e1 := E9.out.cell 1; have e2 := E9.out.cell 2
          simp at e0 e1 e2
          obtain ⟨L, hL⟩ : ∃ L, insV y (es) = L := ⟨_, rfl⟩
          have PP := Lib.hid (show 0 ≤ placeV L y.i y.k from hL ▸ placeV_pos (mem_insV.mpr (.inl rfl)) (isE_self y))
          have K1 := Lib.hid (show keyN L y.i y.k L.length = 1 from hL ▸ keyN_one PN.out)
          have LL := Lib.hid (show L.length ≤ 500 by have := insV_len y (es); have := LB2.out; rw [hL] at *; omega)
          have DN := Lib.hid (show dueN L 99 = L.length from dueN_whole (fun z hz => by
            rw [← hL] at hz
            rcases mem_insV.mp hz with rfl | hz
            · have := YB.out.1.2; omega
            · have := DD.out z hz; omega))
          rw [hL] at M9
          clear hL
          go_wp2_with fail
          refine (m8put OK.out g L y M9.out LL.out).mono ?_
          rintro e w10 (⟨h, _⟩ | ⟨_, _, rfl, hm, hh⟩ | ⟨_, h, _⟩)
          · exact absurd h YG.out
          rotate_left
          · exact absurd PP.out (by rw [h]; decide)
          have M10 := Lib.hid hm
          have E10 := Lib.hid (hh.blk E9.out (.inr rfl))
          clear hm hh e0 e1 e2
          go_wp2_with fail
          refine (m8due OK.out g L 99 M10.out LL.out).mono ?_
          rintro e w11 ⟨a2, cap2, rfl, hr, _, _, hm, hh⟩
          rw [DN.out] at hr ⊢
          obtain ⟨n, hn⟩ : ∃ n, L.length = n := ⟨_, rfl⟩
          rw [hn] at hr K1 LL ⊢
          have NN := Lib.hid hn
          have R11 := Lib.hid (show RowV w11 a2 n cap2 L by rw [List.take_of_length_le (by rw [hn]; exact Nat.le_refl _)] at hr; exact hr)
          have E11 := Lib.hid (hh.blk E10.out (.inr rfl))
          have B11 := Lib.hid (below_next B0.out hm.below)
          have LLL := LL.out
          have rc := R11.out.cap_le
          clear hr hm hh hn
          go_wp2
          go_loopw [17, 18] (fun v u wr => ∃ j : Nat, u = .int .i64 j ∧ j ≤ n ∧ v = .int .i64 (keyN L y.i y.k j : Nat) ∧ Below w11.heap.size w11 wr) (fun _ u _ => n - (intOf u).toNat)
          case atStart => exact ⟨0, rfl, by omega, by rw [keyN_zero]; rfl, Below.refl _ _⟩
          case round =>
            obtain ⟨j, rfl, jl, rfl, hbel⟩ := hrel
            have BJ := Lib.hid hbel
            clear hbel
            have kl := keyN_le L y.i y.k j
            by_cases go : j < n
            · have b6 : decide (j < n) = true := by simp; omega
              have b7 : decide ((j : Int) < (n : Int)) = true := by simp; omega
              obtain ⟨x, hx⟩ := getV (es := L) (i := j) (by rw [NN.out]; exact go)
              have KN := Lib.hid (keyN_next (id := y.i) (kind := y.k) hx)
              obtain ⟨bk, ok, rfl, hat⟩ := R11.out.at hx
              have XA := Lib.hid (hat.below BJ.out)
              have EJ := Lib.hid (E11.out.below BJ.out)
              obtain ⟨c, hc⟩ : ∃ c, keyN L y.i y.k j = c := ⟨_, rfl⟩
              rw [hc] at KN kl ⊢
              clear hx hat hc
              have j1 : (j : Int) < (n : Int) := by omega
              have j2 : 0 ≤ (j : Int) := by omega
              go_upto_region 24 with fail
              have KEPT := Lib.hid (show ∀ w' : World, Below wr.heap.size wr w' → w'.cell? ⟨bk, ok + j * 3 + 1, none⟩ = some (.int .i64 x.i) ∧ w'.cell? ⟨bk, ok + j * 3 + 2, none⟩ = some (.int .i64 x.k) ∧ w'.cell? ⟨w3.heap.size, 1, none⟩ = some (.int .i64 y.i) ∧ w'.cell? ⟨w3.heap.size, 2, none⟩ = some (.int .i64 y.k) from fun w' h => ⟨(XA.out.below h).c1, (XA.out.below h).c2, (EJ.out.below h).cell 1, (EJ.out.below h).cell 2⟩)
              have BL := Lib.hid ((Below.refl wr.heap.size wr).drew)
              by_cases q1 : x.i = y.i
              · have u1 : (x.i == y.i) = true := by simp [q1]
                by_cases q2 : x.k = y.k
                · have u2 : (x.k == y.k) = true := by simp [q2]
                  have KK := Lib.hid (show keyN L y.i y.k (j + 1) = c + 1 by rw [KN.out]; unfold isE; simp [q1, q2])
                  clear q1 q2
                  go_region_held3 (fun w' => w'.cell? ⟨bk, ok + j * 3 + 1, none⟩ = some (.int .i64 x.i) ∧ w'.cell? ⟨bk, ok + j * 3 + 2, none⟩ = some (.int .i64 x.k) ∧ w'.cell? ⟨w3.heap.size, 1, none⟩ = some (.int .i64 y.i) ∧ w'.cell? ⟨w3.heap.size, 2, none⟩ = some (.int .i64 y.k))
                    (exact KEPT.out _ BL.out)
                    (fail)
                  all_goals
                    go_wp2
                    go_roundw
                    case rel => exact ⟨j + 1, by go_num, by omega, by rw [KK.out]; go_num, below_next BJ.out BL.out⟩
                    case measure => simp [intOf]; omega
                · have u2 : (x.k == y.k) = false := by simp [q2]
                  have KK := Lib.hid (show keyN L y.i y.k (j + 1) = c by rw [KN.out]; unfold isE; simp [q2])
                  clear q1 q2
                  go_region_held3 (fun w' => w'.cell? ⟨bk, ok + j * 3 + 1, none⟩ = some (.int .i64 x.i) ∧ w'.cell? ⟨bk, ok + j * 3 + 2, none⟩ = some (.int .i64 x.k) ∧ w'.cell? ⟨w3.heap.size, 1, none⟩ = some (.int .i64 y.i) ∧ w'.cell? ⟨w3.heap.size, 2, none⟩ = some (.int .i64 y.k))
                    (exact KEPT.out _ BL.out)
                    (fail)
                  all_goals
                    go_wp2
                    go_roundw
                    case rel => exact ⟨j + 1, by go_num, by omega, by rw [KK.out], below_next BJ.out BL.out⟩
                    case measure => simp [intOf]; omega
              · have u1 : (x.i == y.i) = false := by simp [q1]
                have KK := Lib.hid (show keyN L y.i y.k (j + 1) = c by rw [KN.out]; unfold isE; simp [q1])
                clear q1
                refine wp_region_noPanic ?_
                refine wp_region_held_drew (S := fun w' => w'.cell? ⟨bk, ok + j * 3 + 1, none⟩ = some (.int .i64 x.i) ∧ w'.cell? ⟨bk, ok + j * 3 + 2, none⟩ = some (.int .i64 x.k) ∧ w'.cell? ⟨w3.heap.size, 1, none⟩ = some (.int .i64 y.i) ∧ w'.cell? ⟨w3.heap.size, 2, none⟩ = some (.int .i64 y.k)) (by kernel_rfl) (KEPT.out _ BL.out) (fun hHeld => ?_)
                refine' takeY (i := 0) (oi := _) (v := _) ?hic0 (by kernel_rfl) (by kernel_rfl) (by kernel_rfl) (fun _ _ _ h => h) ?hwc0 ?hyc0 hHeld ?restc0
                case hic0 => (simp only [List.getElem?_toArray, List.getElem?_cons_zero]; rfl)
                case hwc0 => rfl
                case hyc0 => (intro w hSw; (try dsimp only at hSw); go_simp; try with_reducible rfl)
                try simp only [Act.put, List.setIfInBounds_toArray, List.set_cons_zero, List.set_cons_succ]
                refine' takeY (i := 1) (oi := _) (v := _) ?hic1 (by kernel_rfl) (by kernel_rfl) (by kernel_rfl) (fun _ _ _ h => h) ?hwc1 ?hyc1 hHeld ?restc1
                case hic1 => (simp only [List.getElem?_toArray, List.getElem?_cons_succ, List.getElem?_cons_zero]; rfl)
                case hwc1 => rfl
                case hyc1 => (intro w hSw; (try dsimp only at hSw); go_simp; try with_reducible rfl)
                try simp only [Act.put, List.setIfInBounds_toArray, List.set_cons_zero, List.set_cons_succ]
                refine' takeY (i := 2) (oi := _) (v := _) ?hic2 (by kernel_rfl) (by kernel_rfl) (by kernel_rfl) (fun _ _ _ h => h) ?hwc2 ?hyc2 hHeld ?restc2
                case hic2 => (simp only [List.getElem?_toArray, List.getElem?_cons_succ, List.getElem?_cons_zero]; rfl)
                case hwc2 => rfl
                case hyc2 => (intro w hSw; (try dsimp only at hSw); go_simp; try with_reducible rfl)
                try simp only [Act.put, List.setIfInBounds_toArray, List.set_cons_zero, List.set_cons_succ]
                refine' takeY (i := 3) (oi := _) (v := _) ?hic3 (by kernel_rfl) (by kernel_rfl) (by kernel_rfl) (fun _ _ _ h => h) ?hwc3 ?hyc3 hHeld ?restc3
                case hic3 => (simp only [List.getElem?_toArray, List.getElem?_cons_succ, List.getElem?_cons_zero]; rfl)
                case hwc3 => rfl
                case hyc3 => (intro w hSw; (try dsimp only at hSw); go_simp; try with_reducible rfl)
                try simp only [Act.put, List.setIfInBounds_toArray, List.set_cons_zero, List.set_cons_succ]
                refine' takeY (i := 4) (oi := _) (v := _) ?hic4 (by kernel_rfl) (by kernel_rfl) (by kernel_rfl) (fun _ _ _ h => h) ?hwc4 ?hyc4 hHeld ?restc4
                case hic4 => (simp only [List.getElem?_toArray, List.getElem?_cons_succ, List.getElem?_cons_zero]; rfl)
                case hwc4 => rfl
                case hyc4 => (intro w hSw; (try dsimp only at hSw); go_simp; try with_reducible rfl)
                try simp only [Act.put, List.setIfInBounds_toArray, List.set_cons_zero, List.set_cons_succ]
                refine' takeY (i := 5) (oi := _) (v := _) ?hic5 (by kernel_rfl) (by kernel_rfl) (by kernel_rfl) (fun _ _ _ h => h) ?hwc5 ?hyc5 hHeld ?restc5
                case hic5 => (simp only [List.getElem?_toArray, List.getElem?_cons_succ, List.getElem?_cons_zero]; rfl)
                case hwc5 => rfl
                case hyc5 => (intro w hSw; (try dsimp only at hSw); go_simp; try with_reducible rfl)
                try simp only [Act.put, List.setIfInBounds_toArray, List.set_cons_zero, List.set_cons_succ]
                refine' takeY (i := 6) (oi := _) (v := _) ?hic6 (by kernel_rfl) (by kernel_rfl) (by kernel_rfl) (fun _ _ _ h => h) ?hwc6 ?hyc6 hHeld ?restc6
                case hic6 => (simp only [List.getElem?_toArray, List.getElem?_cons_succ, List.getElem?_cons_zero]; rfl)
                case hwc6 => rfl
                case hyc6 => (intro w hSw; (try dsimp only at hSw); go_simp; try with_reducible rfl)
                try simp only [Act.put, List.setIfInBounds_toArray, List.set_cons_zero, List.set_cons_succ]
                refine' takeY (i := 7) (oi := _) (v := _) ?hic7 (by kernel_rfl) (by kernel_rfl) (by kernel_rfl) (fun _ _ _ h => h) ?hwc7 ?hyc7 hHeld ?restc7
                case hic7 => (simp only [List.getElem?_toArray, List.getElem?_cons_succ, List.getElem?_cons_zero]; rfl)
                case hwc7 => rfl
                case hyc7 => (intro w hSw; (try dsimp only at hSw); go_simp; try with_reducible rfl)
                try simp only [Act.put, List.setIfInBounds_toArray, List.set_cons_zero, List.set_cons_succ]
                refine' takeY (i := 8) (oi := _) (v := _) ?hic8 (by kernel_rfl) (by kernel_rfl) (by kernel_rfl) (fun _ _ _ h => h) ?hwc8 ?hyc8 hHeld ?restc8
                case hic8 => (simp only [List.getElem?_toArray, List.getElem?_cons_succ, List.getElem?_cons_zero]; rfl)
                case hwc8 => rfl
                case hyc8 => (intro w hSw; (try dsimp only at hSw); go_simp; try with_reducible rfl)
                try simp only [Act.put, List.setIfInBounds_toArray, List.set_cons_zero, List.set_cons_succ]
                refine' takeN (i := 9) (oi := _) ?hic9 (by kernel_rfl) (by kernel_rfl) (by kernel_rfl) (fun _ _ _ h => h) ?hwc9 hHeld ?restc9
                case hic9 => (simp only [List.getElem?_toArray, List.getElem?_cons_succ, List.getElem?_cons_zero]; rfl)
                case hwc9 => rfl
                try simp only [Act.put, List.setIfInBounds_toArray, List.set_cons_zero, List.set_cons_succ]
                refine' takeN (i := 10) (oi := _) ?hic10 (by kernel_rfl) (by kernel_rfl) (by kernel_rfl) (fun _ _ _ h => h) ?hwc10 hHeld ?restc10
                case hic10 => (simp only [List.getElem?_toArray, List.getElem?_cons_succ, List.getElem?_cons_zero]; rfl)
                case hwc10 => rfl
                try simp only [Act.put, List.setIfInBounds_toArray, List.set_cons_zero, List.set_cons_succ]
                refine' takeN (i := 11) (oi := _) ?hic11 (by kernel_rfl) (by kernel_rfl) (by kernel_rfl) (fun _ _ _ h => h) ?hwc11 hHeld ?restc11
                case hic11 => (simp only [List.getElem?_toArray, List.getElem?_cons_succ, List.getElem?_cons_zero]; rfl)
                case hwc11 => rfl
                try simp only [Act.put, List.setIfInBounds_toArray, List.set_cons_zero, List.set_cons_succ]
                refine' takeN (i := 12) (oi := _) ?hic12 (by kernel_rfl) (by kernel_rfl) (by kernel_rfl) (fun _ _ _ h => h) ?hwc12 hHeld ?restc12
                case hic12 => (simp only [List.getElem?_toArray, List.getElem?_cons_succ, List.getElem?_cons_zero]; rfl)
                case hwc12 => rfl
                try simp only [Act.put, List.setIfInBounds_toArray, List.set_cons_zero, List.set_cons_succ]
                refine' takeN (i := 13) (oi := _) ?hic13 (by kernel_rfl) (by kernel_rfl) (by kernel_rfl) (fun _ _ _ h => h) ?hwc13 hHeld ?restc13
                case hic13 => (simp only [List.getElem?_toArray, List.getElem?_cons_succ, List.getElem?_cons_zero]; rfl)
                case hwc13 => rfl
                try simp only [Act.put, List.setIfInBounds_toArray, List.set_cons_zero, List.set_cons_succ]
                refine' takeN (i := 14) (oi := _) ?hic14 (by kernel_rfl) (by kernel_rfl) (by kernel_rfl) (fun _ _ _ h => h) ?hwc14 hHeld ?restc14
                case hic14 => (simp only [List.getElem?_toArray, List.getElem?_cons_succ, List.getElem?_cons_zero]; rfl)
                case hwc14 => rfl
                try simp only [Act.put, List.setIfInBounds_toArray, List.set_cons_zero, List.set_cons_succ]
                refine' takeN (i := 15) (oi := _) ?hic15 (by kernel_rfl) (by kernel_rfl) (by kernel_rfl) (fun _ _ _ h => h) ?hwc15 hHeld ?restc15
                case hic15 => (simp only [List.getElem?_toArray, List.getElem?_cons_succ, List.getElem?_cons_zero]; rfl)
                case hwc15 => rfl
                try simp only [Act.put, List.setIfInBounds_toArray, List.set_cons_zero, List.set_cons_succ]
                refine' takeN (i := 16) (oi := _) ?hic16 (by kernel_rfl) (by kernel_rfl) (by kernel_rfl) (fun _ _ _ h => h) ?hwc16 hHeld ?restc16
                case hic16 => (simp only [List.getElem?_toArray, List.getElem?_cons_succ, List.getElem?_cons_zero]; rfl)
                case hwc16 => rfl
                try simp only [Act.put, List.setIfInBounds_toArray, List.set_cons_zero, List.set_cons_succ]
                refine' takeY (i := 17) (oi := _) (v := _) ?hic17 (by kernel_rfl) (by kernel_rfl) (by kernel_rfl) (fun _ _ _ h => h) ?hwc17 ?hyc17 hHeld ?restc17
                case hic17 => (simp only [List.getElem?_toArray, List.getElem?_cons_succ, List.getElem?_cons_zero]; rfl)
                case hwc17 => rfl
                case hyc17 => (intro w hSw; (try dsimp only at hSw); go_simp; try with_reducible rfl)
                try simp only [Act.put, List.setIfInBounds_toArray, List.set_cons_zero, List.set_cons_succ]
                refine wpAnyH_done (by kernel_rfl) ?_ _
                refine NoPanic.normal ?_
                go_wp2
                go_roundw
                case rel => exact ⟨j + 1, by go_num, by omega, by rw [KK.out], below_next BJ.out BL.out⟩
                case measure => simp [intOf]; omega
            · have b6 : decide (j < n) = false := by simp; omega
              have b7 : decide ((j : Int) < (n : Int)) = false := by simp; omega
              obtain rfl : j = n := by omega
              rw [K1.out]
              go_wp2
              go_ret
              exact ⟨rfl, below_next B11.out BJ.out⟩
        · obtain ⟨xi, xk⟩ := placeV_is hp hx
          have DG := Lib.hid (dropped_gone (Mine8.own OK.out M5.out) hp hx)
          obtain ⟨xd, xi', xk'⟩ := x
          simp only at xi xk
          subst xi
          subst xk
          go_wp2_with fail
          refine (m8len OK.out g es M5.out (by omega)).mono ?_
          rintro e w6 ⟨rfl, hm, hh⟩
          have M6 := Lib.hid hm
          have E6 := Lib.hid (hh.blk E5.out (.inr rfl))
          clear hm hh e0 e1 e2
          have e0 := E6.out.cell 0; have e1 := E6.out.cell 1; have e2 := E6.out.cell 2
          simp at e0 e1 e2
          go_wp2_with fail
          refine (m8drop OK.out g es y.i y.k M6.out (by omega)).mono ?_
          rintro e w7 (⟨h, _⟩ | ⟨k', x', h, hx', rfl, hm, hh⟩)
          · rw [hp] at h; omega
          obtain rfl : k = k' := by rw [hp] at h; omega
          obtain rfl : (⟨xd, y.i, y.k⟩ : Ev) = x' := by rw [hx] at hx'; simpa using hx'
          have kl : k < es.length := by
            rcases Nat.lt_or_ge k es.length with q | q
            · exact q
            · rw [List.getElem?_eq_none q] at hx; cases hx
          have EL := Lib.hid (show (es.eraseIdx k).length + 1 = es.length by rw [List.length_eraseIdx_of_lt kl]; omega)
          have M7 := Lib.hid (hm.next OK.out (wbox _ (Obj.cells #[.int .i64 xd, .int .i64 y.i, .int .i64 y.k] 31)))
          have E7 := Lib.hid ((hh.blk E6.out (.inr rfl)).below (wbox _ (Obj.cells #[.int .i64 xd, .int .i64 y.i, .int .i64 y.k] 31)))
          have PNN := Lib.hid DG.out
          have LB := Lib.hid (show (es.eraseIdx k).length ≤ 500 by have := EL.out; omega)
          have LB2 := Lib.hid (show (es.eraseIdx k).length ≤ 400 by have := EL.out; omega)
          have DD := Lib.hid (show ∀ z ∈ es.eraseIdx k, z.d ≤ 15 from fun z hz => D.out z (List.mem_of_mem_eraseIdx hz))
          obtain ⟨m, hm'⟩ : ∃ m, es.length = m := ⟨_, rfl⟩
          rw [hm'] at EL e30 ⊢
          obtain ⟨m', hm''⟩ : ∃ m', (es.eraseIdx k).length = m' := ⟨_, rfl⟩
          have ML := Lib.hid hm''
          have v1 : m' + 1 = m := by rw [← hm'']; exact EL.out
          have v2 : ((m' : Int) != (m : Int) - 1) = false := by simp; omega
          have m0 : 1 ≤ m := by omega
          clear hm hh e0 e1 e2 hp hx h hx' hm' hm'' el
          have e0 := E7.out.cell 0; have e1 := E7.out.cell 1; have e2 := E7.out.cell 2
          simp only [List.getElem?_toArray, List.getElem?_cons_zero, List.getElem?_cons_succ] at e0 e1 e2
          go_wp2_with fail
          refine (m8len OK.out g (es.eraseIdx k) M7.out LB.out).mono ?_
          rintro e w8 ⟨rfl, hm, hh⟩
          rw [ML.out]
          have M8 := Lib.hid hm
          have E8 := Lib.hid (hh.blk E7.out (.inr rfl))
          clear hm hh e0 e1 e2
          have e0 := E8.out.cell 0; have e1 := E8.out.cell 1; have e2 := E8.out.cell 2
          simp at e0 e1 e2
          have PN := Lib.hid (show placeV (es.eraseIdx k) y.i y.k = -1 from PNN.out)
          go_wp2_with fail
          refine (m8put OK.out g (es.eraseIdx k) y M8.out LB.out).mono ?_
          rintro e w9 (⟨h, _⟩ | ⟨_, h, _⟩ | ⟨_, _, rfl, hm, hh⟩)
          · exact absurd h YG.out
          · exact absurd h (by rw [PN.out]; decide)
          have M9 := Lib.hid hm
          have E9 := Lib.hid (hh.blk E8.out (.inr rfl))
          clear hm hh
          have e0 := E9.out.cell 0; have e1 := E9.out.cell 1; have e2 := E9.out.cell 2
          simp at e0 e1 e2
          obtain ⟨L, hL⟩ : ∃ L, insV y (es.eraseIdx k) = L := ⟨_, rfl⟩
          have PP := Lib.hid (show 0 ≤ placeV L y.i y.k from hL ▸ placeV_pos (mem_insV.mpr (.inl rfl)) (isE_self y))
          have K1 := Lib.hid (show keyN L y.i y.k L.length = 1 from hL ▸ keyN_one PN.out)
          have LL := Lib.hid (show L.length ≤ 500 by have := insV_len y (es.eraseIdx k); have := LB2.out; rw [hL] at *; omega)
          have DN := Lib.hid (show dueN L 99 = L.length from dueN_whole (fun z hz => by
            rw [← hL] at hz
            rcases mem_insV.mp hz with rfl | hz
            · have := YB.out.1.2; omega
            · have := DD.out z hz; omega))
          rw [hL] at M9
          clear hL
          go_wp2_with fail
          refine (m8put OK.out g L y M9.out LL.out).mono ?_
          rintro e w10 (⟨h, _⟩ | ⟨_, _, rfl, hm, hh⟩ | ⟨_, h, _⟩)
          · exact absurd h YG.out
          rotate_left
          · exact absurd PP.out (by rw [h]; decide)
          have M10 := Lib.hid hm
          have E10 := Lib.hid (hh.blk E9.out (.inr rfl))
          clear hm hh e0 e1 e2
          go_wp2_with fail
          refine (m8due OK.out g L 99 M10.out LL.out).mono ?_
          rintro e w11 ⟨a2, cap2, rfl, hr, _, _, hm, hh⟩
          rw [DN.out] at hr ⊢
          obtain ⟨n, hn⟩ : ∃ n, L.length = n := ⟨_, rfl⟩
          rw [hn] at hr K1 LL ⊢
          have NN := Lib.hid hn
          have R11 := Lib.hid (show RowV w11 a2 n cap2 L by rw [List.take_of_length_le (by rw [hn]; exact Nat.le_refl _)] at hr; exact hr)
          have E11 := Lib.hid (hh.blk E10.out (.inr rfl))
          have B11 := Lib.hid (below_next B0.out hm.below)
          have LLL := LL.out
          have rc := R11.out.cap_le
          clear hr hm hh hn
          go_wp2
          go_loopw [17, 18] (fun v u wr => ∃ j : Nat, u = .int .i64 j ∧ j ≤ n ∧ v = .int .i64 (keyN L y.i y.k j : Nat) ∧ Below w11.heap.size w11 wr) (fun _ u _ => n - (intOf u).toNat)
          case atStart => exact ⟨0, rfl, by omega, by rw [keyN_zero]; rfl, Below.refl _ _⟩
          case round =>
            obtain ⟨j, rfl, jl, rfl, hbel⟩ := hrel
            have BJ := Lib.hid hbel
            clear hbel
            have kl := keyN_le L y.i y.k j
            by_cases go : j < n
            · have b6 : decide (j < n) = true := by simp; omega
              have b7 : decide ((j : Int) < (n : Int)) = true := by simp; omega
              obtain ⟨x, hx⟩ := getV (es := L) (i := j) (by rw [NN.out]; exact go)
              have KN := Lib.hid (keyN_next (id := y.i) (kind := y.k) hx)
              obtain ⟨bk, ok, rfl, hat⟩ := R11.out.at hx
              have XA := Lib.hid (hat.below BJ.out)
              have EJ := Lib.hid (E11.out.below BJ.out)
              obtain ⟨c, hc⟩ : ∃ c, keyN L y.i y.k j = c := ⟨_, rfl⟩
              rw [hc] at KN kl ⊢
              clear hx hat hc
              have j1 : (j : Int) < (n : Int) := by omega
              have j2 : 0 ≤ (j : Int) := by omega
              go_upto_region 24 with fail
              have KEPT := Lib.hid (show ∀ w' : World, Below wr.heap.size wr w' → w'.cell? ⟨bk, ok + j * 3 + 1, none⟩ = some (.int .i64 x.i) ∧ w'.cell? ⟨bk, ok + j * 3 + 2, none⟩ = some (.int .i64 x.k) ∧ w'.cell? ⟨w3.heap.size, 1, none⟩ = some (.int .i64 y.i) ∧ w'.cell? ⟨w3.heap.size, 2, none⟩ = some (.int .i64 y.k) from fun w' h => ⟨(XA.out.below h).c1, (XA.out.below h).c2, (EJ.out.below h).cell 1, (EJ.out.below h).cell 2⟩)
              have BL := Lib.hid ((Below.refl wr.heap.size wr).drew)
              by_cases q1 : x.i = y.i
              · have u1 : (x.i == y.i) = true := by simp [q1]
                by_cases q2 : x.k = y.k
                · have u2 : (x.k == y.k) = true := by simp [q2]
                  have KK := Lib.hid (show keyN L y.i y.k (j + 1) = c + 1 by rw [KN.out]; unfold isE; simp [q1, q2])
                  clear q1 q2
                  go_region_held3 (fun w' => w'.cell? ⟨bk, ok + j * 3 + 1, none⟩ = some (.int .i64 x.i) ∧ w'.cell? ⟨bk, ok + j * 3 + 2, none⟩ = some (.int .i64 x.k) ∧ w'.cell? ⟨w3.heap.size, 1, none⟩ = some (.int .i64 y.i) ∧ w'.cell? ⟨w3.heap.size, 2, none⟩ = some (.int .i64 y.k))
                    (exact KEPT.out _ BL.out)
                    (fail)
                  all_goals
                    go_wp2
                    go_roundw
                    case rel => exact ⟨j + 1, by go_num, by omega, by rw [KK.out]; go_num, below_next BJ.out BL.out⟩
                    case measure => simp [intOf]; omega
                · have u2 : (x.k == y.k) = false := by simp [q2]
                  have KK := Lib.hid (show keyN L y.i y.k (j + 1) = c by rw [KN.out]; unfold isE; simp [q2])
                  clear q1 q2
                  go_region_held3 (fun w' => w'.cell? ⟨bk, ok + j * 3 + 1, none⟩ = some (.int .i64 x.i) ∧ w'.cell? ⟨bk, ok + j * 3 + 2, none⟩ = some (.int .i64 x.k) ∧ w'.cell? ⟨w3.heap.size, 1, none⟩ = some (.int .i64 y.i) ∧ w'.cell? ⟨w3.heap.size, 2, none⟩ = some (.int .i64 y.k))
                    (exact KEPT.out _ BL.out)
                    (fail)
                  all_goals
                    go_wp2
                    go_roundw
                    case rel => exact ⟨j + 1, by go_num, by omega, by rw [KK.out], below_next BJ.out BL.out⟩
                    case measure => simp [intOf]; omega
              · have u1 : (x.i == y.i) = false := by simp [q1]
                have KK := Lib.hid (show keyN L y.i y.k (j + 1) = c by rw [KN.out]; unfold isE; simp [q1])
                clear q1
                refine wp_region_noPanic ?_
                refine wp_region_held_drew (S := fun w' => w'.cell? ⟨bk, ok + j * 3 + 1, none⟩ = some (.int .i64 x.i) ∧ w'.cell? ⟨bk, ok + j * 3 + 2, none⟩ = some (.int .i64 x.k) ∧ w'.cell? ⟨w3.heap.size, 1, none⟩ = some (.int .i64 y.i) ∧ w'.cell? ⟨w3.heap.size, 2, none⟩ = some (.int .i64 y.k)) (by kernel_rfl) (KEPT.out _ BL.out) (fun hHeld => ?_)
                refine' takeY (i := 0) (oi := _) (v := _) ?hid0 (by kernel_rfl) (by kernel_rfl) (by kernel_rfl) (fun _ _ _ h => h) ?hwd0 ?hyd0 hHeld ?restd0
                case hid0 => (simp only [List.getElem?_toArray, List.getElem?_cons_zero]; rfl)
                case hwd0 => rfl
                case hyd0 => (intro w hSw; (try dsimp only at hSw); go_simp; try with_reducible rfl)
                try simp only [Act.put, List.setIfInBounds_toArray, List.set_cons_zero, List.set_cons_succ]
                refine' takeY (i := 1) (oi := _) (v := _) ?hid1 (by kernel_rfl) (by kernel_rfl) (by kernel_rfl) (fun _ _ _ h => h) ?hwd1 ?hyd1 hHeld ?restd1
                case hid1 => (simp only [List.getElem?_toArray, List.getElem?_cons_succ, List.getElem?_cons_zero]; rfl)
                case hwd1 => rfl
                case hyd1 => (intro w hSw; (try dsimp only at hSw); go_simp; try with_reducible rfl)
                try simp only [Act.put, List.setIfInBounds_toArray, List.set_cons_zero, List.set_cons_succ]
                refine' takeY (i := 2) (oi := _) (v := _) ?hid2 (by kernel_rfl) (by kernel_rfl) (by kernel_rfl) (fun _ _ _ h => h) ?hwd2 ?hyd2 hHeld ?restd2
                case hid2 => (simp only [List.getElem?_toArray, List.getElem?_cons_succ, List.getElem?_cons_zero]; rfl)
                case hwd2 => rfl
                case hyd2 => (intro w hSw; (try dsimp only at hSw); go_simp; try with_reducible rfl)
                try simp only [Act.put, List.setIfInBounds_toArray, List.set_cons_zero, List.set_cons_succ]
                refine' takeY (i := 3) (oi := _) (v := _) ?hid3 (by kernel_rfl) (by kernel_rfl) (by kernel_rfl) (fun _ _ _ h => h) ?hwd3 ?hyd3 hHeld ?restd3
                case hid3 => (simp only [List.getElem?_toArray, List.getElem?_cons_succ, List.getElem?_cons_zero]; rfl)
                case hwd3 => rfl
                case hyd3 => (intro w hSw; (try dsimp only at hSw); go_simp; try with_reducible rfl)
                try simp only [Act.put, List.setIfInBounds_toArray, List.set_cons_zero, List.set_cons_succ]
                refine' takeY (i := 4) (oi := _) (v := _) ?hid4 (by kernel_rfl) (by kernel_rfl) (by kernel_rfl) (fun _ _ _ h => h) ?hwd4 ?hyd4 hHeld ?restd4
                case hid4 => (simp only [List.getElem?_toArray, List.getElem?_cons_succ, List.getElem?_cons_zero]; rfl)
                case hwd4 => rfl
                case hyd4 => (intro w hSw; (try dsimp only at hSw); go_simp; try with_reducible rfl)
                try simp only [Act.put, List.setIfInBounds_toArray, List.set_cons_zero, List.set_cons_succ]
                refine' takeY (i := 5) (oi := _) (v := _) ?hid5 (by kernel_rfl) (by kernel_rfl) (by kernel_rfl) (fun _ _ _ h => h) ?hwd5 ?hyd5 hHeld ?restd5
                case hid5 => (simp only [List.getElem?_toArray, List.getElem?_cons_succ, List.getElem?_cons_zero]; rfl)
                case hwd5 => rfl
                case hyd5 => (intro w hSw; (try dsimp only at hSw); go_simp; try with_reducible rfl)
                try simp only [Act.put, List.setIfInBounds_toArray, List.set_cons_zero, List.set_cons_succ]
                refine' takeY (i := 6) (oi := _) (v := _) ?hid6 (by kernel_rfl) (by kernel_rfl) (by kernel_rfl) (fun _ _ _ h => h) ?hwd6 ?hyd6 hHeld ?restd6
                case hid6 => (simp only [List.getElem?_toArray, List.getElem?_cons_succ, List.getElem?_cons_zero]; rfl)
                case hwd6 => rfl
                case hyd6 => (intro w hSw; (try dsimp only at hSw); go_simp; try with_reducible rfl)
                try simp only [Act.put, List.setIfInBounds_toArray, List.set_cons_zero, List.set_cons_succ]
                refine' takeY (i := 7) (oi := _) (v := _) ?hid7 (by kernel_rfl) (by kernel_rfl) (by kernel_rfl) (fun _ _ _ h => h) ?hwd7 ?hyd7 hHeld ?restd7
                case hid7 => (simp only [List.getElem?_toArray, List.getElem?_cons_succ, List.getElem?_cons_zero]; rfl)
                case hwd7 => rfl
                case hyd7 => (intro w hSw; (try dsimp only at hSw); go_simp; try with_reducible rfl)
                try simp only [Act.put, List.setIfInBounds_toArray, List.set_cons_zero, List.set_cons_succ]
                refine' takeY (i := 8) (oi := _) (v := _) ?hid8 (by kernel_rfl) (by kernel_rfl) (by kernel_rfl) (fun _ _ _ h => h) ?hwd8 ?hyd8 hHeld ?restd8
                case hid8 => (simp only [List.getElem?_toArray, List.getElem?_cons_succ, List.getElem?_cons_zero]; rfl)
                case hwd8 => rfl
                case hyd8 => (intro w hSw; (try dsimp only at hSw); go_simp; try with_reducible rfl)
                try simp only [Act.put, List.setIfInBounds_toArray, List.set_cons_zero, List.set_cons_succ]
                refine' takeN (i := 9) (oi := _) ?hid9 (by kernel_rfl) (by kernel_rfl) (by kernel_rfl) (fun _ _ _ h => h) ?hwd9 hHeld ?restd9
                case hid9 => (simp only [List.getElem?_toArray, List.getElem?_cons_succ, List.getElem?_cons_zero]; rfl)
                case hwd9 => rfl
                try simp only [Act.put, List.setIfInBounds_toArray, List.set_cons_zero, List.set_cons_succ]
                refine' takeN (i := 10) (oi := _) ?hid10 (by kernel_rfl) (by kernel_rfl) (by kernel_rfl) (fun _ _ _ h => h) ?hwd10 hHeld ?restd10
                case hid10 => (simp only [List.getElem?_toArray, List.getElem?_cons_succ, List.getElem?_cons_zero]; rfl)
                case hwd10 => rfl
                try simp only [Act.put, List.setIfInBounds_toArray, List.set_cons_zero, List.set_cons_succ]
                refine' takeN (i := 11) (oi := _) ?hid11 (by kernel_rfl) (by kernel_rfl) (by kernel_rfl) (fun _ _ _ h => h) ?hwd11 hHeld ?restd11
                case hid11 => (simp only [List.getElem?_toArray, List.getElem?_cons_succ, List.getElem?_cons_zero]; rfl)
                case hwd11 => rfl
                try simp only [Act.put, List.setIfInBounds_toArray, List.set_cons_zero, List.set_cons_succ]
                refine' takeN (i := 12) (oi := _) ?hid12 (by kernel_rfl) (by kernel_rfl) (by kernel_rfl) (fun _ _ _ h => h) ?hwd12 hHeld ?restd12
                case hid12 => (simp only [List.getElem?_toArray, List.getElem?_cons_succ, List.getElem?_cons_zero]; rfl)
                case hwd12 => rfl
                try simp only [Act.put, List.setIfInBounds_toArray, List.set_cons_zero, List.set_cons_succ]
                refine' takeN (i := 13) (oi := _) ?hid13 (by kernel_rfl) (by kernel_rfl) (by kernel_rfl) (fun _ _ _ h => h) ?hwd13 hHeld ?restd13
                case hid13 => (simp only [List.getElem?_toArray, List.getElem?_cons_succ, List.getElem?_cons_zero]; rfl)
                case hwd13 => rfl
                try simp only [Act.put, List.setIfInBounds_toArray, List.set_cons_zero, List.set_cons_succ]
                refine' takeN (i := 14) (oi := _) ?hid14 (by kernel_rfl) (by kernel_rfl) (by kernel_rfl) (fun _ _ _ h => h) ?hwd14 hHeld ?restd14
                case hid14 => (simp only [List.getElem?_toArray, List.getElem?_cons_succ, List.getElem?_cons_zero]; rfl)
                case hwd14 => rfl
                try simp only [Act.put, List.setIfInBounds_toArray, List.set_cons_zero, List.set_cons_succ]
                refine' takeN (i := 15) (oi := _) ?hid15 (by kernel_rfl) (by kernel_rfl) (by kernel_rfl) (fun _ _ _ h => h) ?hwd15 hHeld ?restd15
                case hid15 => (simp only [List.getElem?_toArray, List.getElem?_cons_succ, List.getElem?_cons_zero]; rfl)
                case hwd15 => rfl
                try simp only [Act.put, List.setIfInBounds_toArray, List.set_cons_zero, List.set_cons_succ]
                refine' takeN (i := 16) (oi := _) ?hid16 (by kernel_rfl) (by kernel_rfl) (by kernel_rfl) (fun _ _ _ h => h) ?hwd16 hHeld ?restd16
                case hid16 => (simp only [List.getElem?_toArray, List.getElem?_cons_succ, List.getElem?_cons_zero]; rfl)
                case hwd16 => rfl
                try simp only [Act.put, List.setIfInBounds_toArray, List.set_cons_zero, List.set_cons_succ]
                refine' takeY (i := 17) (oi := _) (v := _) ?hid17 (by kernel_rfl) (by kernel_rfl) (by kernel_rfl) (fun _ _ _ h => h) ?hwd17 ?hyd17 hHeld ?restd17
                case hid17 => (simp only [List.getElem?_toArray, List.getElem?_cons_succ, List.getElem?_cons_zero]; rfl)
                case hwd17 => rfl
                case hyd17 => (intro w hSw; (try dsimp only at hSw); go_simp; try with_reducible rfl)
                try simp only [Act.put, List.setIfInBounds_toArray, List.set_cons_zero, List.set_cons_succ]
                refine wpAnyH_done (by kernel_rfl) ?_ _
                refine NoPanic.normal ?_
                go_wp2
                go_roundw
                case rel => exact ⟨j + 1, by go_num, by omega, by rw [KK.out], below_next BJ.out BL.out⟩
                case measure => simp [intOf]; omega
            · have b6 : decide (j < n) = false := by simp; omega
              have b7 : decide ((j : Int) < (n : Int)) = false := by simp; omega
              obtain rfl : j = n := by omega
              rw [K1.out]
              go_wp2
              go_ret
              exact ⟨rfl, below_next B11.out BJ.out⟩
end Go.Proofs.Ytfeemdljlikpbaa
