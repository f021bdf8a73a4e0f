/-
  The walk of the law CalendarNext, for a package calendar that is as P8.1 and P8.2 say. (Written by wip/tools/gen_ci6.py.)
-/
import Derived.Test.YtfeemdljlikpbaaCi5
import Derived.Test.YtfeemdljlikpbaaCi3
namespace Go.Proofs.Ytfeemdljlikpbaa
open Go.RowKit

/-- the law's own blocks, fewer -/
theorem Mine8.less {Hp : World → Nat → (Nat → Prop) → List Ev → Prop} (ok : CalOk Hp) {w wr : World} {G G' : Nat → Prop} {g : Nat} {es : List Ev} (h : Mine8 Hp w G g es wr) (hG : ∀ k, G' k → G k) : Mine8 Hp w G' g es wr :=
  h.wrote ok (Keeps.refl G wr) (fun k q => .inl (hG k q)) (by
    obtain ⟨_, _, _, _, _, h5, _⟩ := h
    exact fun k q => h5 k (hG k q))
theorem dueN_ahead {L : List Ev} {x : Ev} (hx : L[0]? = some x) : dueN L (x.d - 1) = 0 :=
  dueN_all L _ 0 (Nat.zero_le _) (by simp) (fun e he => by rw [hx] at he; cases he; omega)
theorem placeV_first {L : List Ev} {x : Ev} (hx : L[0]? = some x) : placeV L x.i x.k = 0 := placeV_found hx (isE_self x) (by simp)
set_option maxRecDepth 20000 in
set_option maxHeartbeats 8000000 in
theorem cnext_walk {Hp : World → Nat → (Nat → Prop) → List Ev → Prop} (ok : CalOk Hp) (a : Option Addr) (len cap : Nat) (l : List Ev) (w : World) (h : RowV w a len cap l) : Calls Try.prog 7 #[.slice a len cap] w fun e w' => e = .returned (.bool true) ∧ Below w.heap.size w w' := by
  have OK := Lib.hid ok
  have Z := Lib.hid h
  have LN := Lib.hid h.len
  have zc := h.cap_le
  clear h ok
  go_enter Try.func7, Try.ntmps7
  go_wp2_with fail
  refine (l8awake OK.out _).mono ?_
  rintro e w1 ⟨rfl, hb⟩
  have B := Lib.hid hb
  clear hb
  go_wp2_with fail
  refine (m8new OK.out _ B.out).mono ?_
  rintro e w2 ⟨g, rfl, hm⟩
  have M := Lib.hid hm
  clear hm B
  go_wp2
  go_loopw [5] (fun u wr => ∃ i : Nat, u = .int .i64 i ∧ i ≤ len ∧ i ≤ 30 ∧ Mine8 Hp w G0 g (putsV l i) wr) (fun u _ => len - (intOf u).toNat)
  case atStart => exact ⟨0, rfl, by omega, by omega, M.out⟩
  case round =>
    obtain ⟨i, rfl, il, i30, hm⟩ := hrel
    clear M
    have M := Lib.hid hm
    have pl := putsV_len l i
    clear hm
    by_cases d1 : i < len ∧ i < 30
    · have b1 : decide (i < len) = true := by simp; omega
      have b2 : decide ((i : Int) < (len : Int)) = true := by simp; omega
      have b3 : decide ((i : Int) < 30) = true := by simp; omega
      have b3n : decide (i < 30) = true := by simp; omega
      obtain ⟨x, hx⟩ := getV (es := l) (i := i) (by rw [LN.out]; omega)
      have PN := Lib.hid (putsV_next hx)
      obtain ⟨bl, ol, rfl, hat⟩ := (Z.out.below M.out.below).at hx
      have x0 := hat.c0; have x1 := hat.c1; have x2 := hat.c2
      have i1 : (i : Int) < (len : Int) := by omega
      have i2 : 0 ≤ (i : Int) := by omega
      obtain ⟨y, hy⟩ : ∃ y, nearE x = y := ⟨_, rfl⟩
      have EV := Lib.hid (fun w => l8event_any 0 true x w)
      simp only [if_true, hy] at EV
      rw [hy] at PN
      have YG := Lib.hid (hy ▸ near_good x)
      have d2 : i < 30 := d1.2
      clear hx hat hy d1
      go_wp2_with fail
      refine (EV.out _).mono ?_
      rintro e w3 ⟨rfl, hb⟩
      have M3 := Lib.hid (M.out.next OK.out (below_next (wbox _ _) hb))
      clear hb
      go_wp2_with fail
      refine (m8put OK.out g (putsV l i) y M3.out (by omega)).mono ?_
      rintro e w4 (⟨h, _, _⟩ | ⟨_, hp, rfl, hm, _⟩ | ⟨_, hp, rfl, hm, _⟩)
      · exact absurd h YG.out
      · have PT : putsV l (i + 1) = putsV l i := by rw [PN.out]; unfold putV; rw [if_neg (by omega)]
        have M4 := Lib.hid (show Mine8 Hp w G0 g (putsV l (i + 1)) w4 by rw [PT]; exact hm)
        clear hm PT hp
        go_wp2
        go_roundw
        case rel => exact ⟨i + 1, by go_num, by omega, by omega, M4.out⟩
        case measure => simp [intOf]; omega
      · have PT : putsV l (i + 1) = insV y (putsV l i) := by rw [PN.out]; unfold putV; rw [if_pos hp]
        have M4 := Lib.hid (show Mine8 Hp w G0 g (putsV l (i + 1)) w4 by rw [PT]; exact hm)
        clear hm PT hp
        go_wp2
        go_roundw
        case rel => exact ⟨i + 1, by go_num, by omega, by omega, M4.out⟩
        case measure => simp [intOf]; omega
    · have hend : (decide (i < len) = false ∧ decide ((i : Int) < (len : Int)) = false) ∨ (decide (i < len) = true ∧ decide ((i : Int) < (len : Int)) = true ∧ decide (i < 30) = false ∧ decide ((i : Int) < 30) = false) := by
        rcases Nat.lt_or_ge i len with q | q
        · exact .inr ⟨by simp; omega, by simp; omega, by simp; omega, by simp; omega⟩
        · exact .inl ⟨by simp; omega, by simp; omega⟩
      have MI : min len 30 = i := by omega
      have L2 := Lib.hid (fun (w' : World) (h : RowV w' a len cap l) => MI ▸ l8len2_any a len cap l w' h)
      have NB := Lib.hid (fun z (hz : z ∈ putsV l i) => putsV_near z hz)
      obtain ⟨es0, hes⟩ : ∃ es0, putsV l i = es0 := ⟨_, rfl⟩
      rw [hes] at M L2 NB pl
      obtain ⟨n0, hn0⟩ : ∃ n0, es0.length = n0 := ⟨_, rfl⟩
      have N0 := Lib.hid hn0
      rw [hn0] at pl L2
      clear d1 MI hes hn0
      rcases hend with ⟨b1, b2⟩ | ⟨b1, b2, b3, b4⟩
      all_goals
        go_wp2
        clear b1 b2
        go_loopw [7] (fun u wr => ∃ k : Nat, u = .int .i64 k ∧ k ≤ n0 ∧ Mine8 Hp w G0 g (es0.drop k) wr) (fun u _ => n0 + 1 - (intOf u).toNat)
        case atStart => exact ⟨0, rfl, by omega, M.out⟩
        case round =>
          obtain ⟨k, rfl, kl, hm⟩ := hrel
          clear M
          have M := Lib.hid hm
          clear hm
          have c1 : decide ((k : Int) < 31) = true := by simp; omega
          have c2 : decide (k < 31) = true := by simp; omega
          have DL := Lib.hid (show (es0.drop k).length = n0 - k by rw [List.length_drop, N0.out])
          have DS := Lib.hid (show (es0.drop k).eraseIdx 0 = es0.drop (k + 1) by rw [List.eraseIdx_zero, List.tail_drop])
          have DN := Lib.hid (show ∀ z ∈ es0.drop k, ∃ x, z = nearE x from fun z hz => NB.out z (List.mem_of_mem_drop hz))
          obtain ⟨L, hL⟩ : ∃ L, es0.drop k = L := ⟨_, rfl⟩
          rw [hL] at M DL DS DN
          clear hL
          have l500 : L.length ≤ 500 := by rw [DL.out]; omega
          go_wp2_with fail
          refine (m8next OK.out g L M.out l500).mono ?_
          rintro e w5 ⟨⟨rfl, rfl⟩ | ⟨x, hx, rfl⟩, hm, _⟩
          · have M5 := Lib.hid (hm.next OK.out (wbox _ (Obj.cells #[.int .i64 0, .int .i64 0, .int .i64 0] 31)))
            have kn : k = n0 := by have := DL.out; simp at this; omega
            clear hm
            go_wp2_with fail
            refine (m8len OK.out g [] M5.out (by simp)).mono ?_
            rintro e w6 ⟨rfl, hm, _⟩
            have M6 := Lib.hid hm
            clear hm
            go_wp2_with fail
            refine (L2.out _ (Z.out.below M6.out.below)).mono ?_
            rintro e w7 ⟨rfl, hb⟩
            have B7 := Lib.hid (below_next M6.out.below hb)
            clear hb
            subst kn
            go_wp2
            go_ret
            exact ⟨rfl, B7.out⟩
          · obtain ⟨z, hz⟩ := DN.out x (List.mem_of_getElem? hx)
            have xb : 0 ≤ x.d ∧ x.d ≤ 15 := by rw [hz]; exact (near_bd z).1
            have xb1 := xb.1
            have xb2 := xb.2
            have PZ := Lib.hid (placeV_first hx)
            have DZ := Lib.hid (dueN_ahead hx)
            have HX := Lib.hid hx
            obtain ⟨m, hmm⟩ : ∃ m, L.length = m := ⟨_, rfl⟩
            have LM := Lib.hid hmm
            have m1 : 1 ≤ m := by
              rcases L with _ | ⟨u, r⟩
              · simp at hx
              · simp at hmm; omega
            have mk : m = n0 - k := by rw [← hmm]; exact DL.out
            have EL := Lib.hid (show (L.eraseIdx 0).length = m - 1 by rw [List.length_eraseIdx_of_lt (by omega), hmm])
            obtain ⟨m', hm'⟩ : ∃ m', m - 1 = m' := ⟨_, rfl⟩
            have ml : m' + 1 = m := by omega
            have v1 : ((m' : Int) != (m : Int) - 1) = false := by simp; omega
            rw [hm'] at EL
            clear xb hz hx hm' hmm z
            obtain ⟨W5, hW5⟩ : ∃ W5, w5.alloc (.cells #[.int .i64 x.d, .int .i64 x.i, .int .i64 x.k] 31) = W5 := ⟨_, rfl⟩
            have M5 := Lib.hid (show Mine8 Hp w (fun k => G0 k ∨ k = w5.heap.size) g L W5 by rw [← hW5]; exact hm.own1 OK.out _)
            have E5 := Lib.hid (show Blk W5 31 w5.heap.size #[.int .i64 x.d, .int .i64 x.i, .int .i64 x.k] by rw [← hW5]; exact Blk.new w5 _ _)
            clear hm
            go_wp2_with fail
            refine (m8len OK.out g L M5.out l500).mono ?_
            rintro e w6 ⟨rfl, hm, hh⟩
            rw [LM.out]
            have M6 := Lib.hid hm
            have E6 := Lib.hid (hh.blk E5.out (.inr rfl))
            clear hm hh hW5
            have e0 := E6.out.cell 0; have e1 := E6.out.cell 1; have e2 := E6.out.cell 2
            simp at e0 e1 e2
            go_wp2_with fail
            refine (m8due OK.out g L (x.d - 1) M6.out l500).mono ?_
            rintro e w7 ⟨a2, cap2, rfl, _, _, _, hm, hh⟩
            rw [DZ.out] at hm ⊢
            rw [List.drop_zero] at hm
            have M7 := Lib.hid (hm.less OK.out (G' := fun k => G0 k ∨ k = w5.heap.size) (fun k q => .inl q))
            have E7 := Lib.hid (hh.blk E6.out (.inr rfl))
            clear hm hh e0 e1 e2
            have e0 := E7.out.cell 0; have e1 := E7.out.cell 1; have e2 := E7.out.cell 2
            simp at e0 e1 e2
            go_wp2_with fail
            refine (m8at OK.out g L x.i x.k M7.out l500).mono ?_
            rintro e w8 ⟨⟨h, _⟩ | ⟨j, x', h, hx', rfl⟩, hm, hh⟩
            · rw [PZ.out] at h; omega
            obtain rfl : 0 = j := by rw [PZ.out] at h; omega
            obtain rfl : x = x' := by have := HX.out; rw [this] at hx'; simpa using hx'
            have M8 := Lib.hid hm
            have E8 := Lib.hid (hh.blk E7.out (.inr rfl))
            clear hm hh e0 e1 e2 h hx'
            have e0 := E8.out.cell 0; have e1 := E8.out.cell 1; have e2 := E8.out.cell 2
            simp at e0 e1 e2
            go_wp2_with fail
            refine (m8drop OK.out g L x.i x.k M8.out l500).mono ?_
            rintro e w9 (⟨h, _⟩ | ⟨j, x', h, hx', rfl, hm, hh⟩)
            · rw [PZ.out] at h; omega
            obtain rfl : 0 = j := by rw [PZ.out] at h; omega
            obtain rfl : x = x' := by have := HX.out; rw [this] at hx'; simpa using hx'
            have M9 := Lib.hid (hm.next OK.out (wbox _ (Obj.cells #[.int .i64 x.d, .int .i64 x.i, .int .i64 x.k] 31)))
            have E9 := Lib.hid ((hh.blk E8.out (.inr rfl)).below (wbox _ (Obj.cells #[.int .i64 x.d, .int .i64 x.i, .int .i64 x.k] 31)))
            have gl := (hh.blk E8.out (.inr rfl)).lt
            clear hm hh e0 e1 e2 h hx'
            have e0 := E9.out.cell 0; have e1 := E9.out.cell 1; have e2 := E9.out.cell 2
            simp only [List.getElem?_toArray, List.getElem?_cons_zero, List.getElem?_cons_succ] at e0 e1 e2
            go_wp2_with fail
            refine (m8len OK.out g (L.eraseIdx 0) M9.out (by rw [EL.out]; omega)).mono ?_
            rintro e w10 ⟨rfl, hm, _⟩
            rw [EL.out]
            have M10 := Lib.hid (show Mine8 Hp w G0 g (es0.drop (k + 1)) w10 from DS.out ▸ hm.less OK.out (G' := G0) (fun _ q => q.elim))
            clear hm e0 e1 e2
            go_wp2
            go_roundw
            case rel => exact ⟨k + 1, by go_num, by omega, M10.out⟩
            case measure => simp [intOf]; omega
end Go.Proofs.Ytfeemdljlikpbaa
