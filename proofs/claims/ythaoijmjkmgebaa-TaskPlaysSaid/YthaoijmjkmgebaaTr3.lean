/-
  The document's own task (regattaref10): Arrive: contract.
-/
import Derived.Test.YthaoijmjkmgebaaTr2
import Derived.Deep.DeepCutAuto
import Derived.Deep.RegionLaw
namespace Go.Proofs.Ythaoijmjkmgebaa
open Go.RowKit

theorem ofV_of (E P i O : Int) (w : World) (hM : MayBe E P) (hi : Nth i) (o0 : 0 ≤ O) (o1 : O ≤ 2305843009213693952) (s : Sb) (hs : ofV E P i O = s) :
    Calls Try.prog 30 #[.agg #[.int .i64 E, .int .i64 P], .int .i64 i, .int .i64 O] w fun e w' => e = .returned (.tuple #[.agg #[.int .i64 s.I, .int .i64 s.R, .int .i64 s.D, .int .i64 s.B, .int .i64 s.G], .int .i64 0]) ∧ Below w.heap.size w w' := by
  subst hs
  exact r4of_yes E P i O w hM hi o0 o1 _ rfl
theorem Try.infoS : (Try.prog.info? 35).map (fun i => (i.zero, i.size, i.bytes)) = some (some sub0.v, 5, 40) := by kernel_rfl
/-- a subtask in a block of its own, made since W1 -/
def SBox (W1 : World) (s : Sb) (v : Value) (wx : World) : Prop :=
  ∃ b : Nat, v = .pointer (some ⟨b, 0, none⟩) ∧ Blk wx 35 b #[.int .i64 s.I, .int .i64 s.R, .int .i64 s.D, .int .i64 s.B, .int .i64 s.G] ∧ W1.heap.size ≤ b ∧ Below W1.heap.size W1 wx
theorem sbox_new {W1 W : World} {s : Sb} (hb : Below W1.heap.size W1 W) :
    SBox W1 s (.pointer (some ⟨W.heap.size, 0, none⟩)) (W.alloc (.cells #[.int .i64 s.I, .int .i64 s.R, .int .i64 s.D, .int .i64 s.B, .int .i64 s.G] 35)) :=
  ⟨_, rfl, Blk.new _ _ _, hb.size, below_next hb (wbox _ _)⟩
theorem sbox_set {W1 W : World} {s : Sb} {b : Nat} (hb : Below W1.heap.size W1 W) (hA : Blk W 35 b #[.int .i64 0, .int .i64 0, .int .i64 0, .int .i64 0, .int .i64 0]) (hg : W1.heap.size ≤ b) :
    SBox W1 s (.pointer (some ⟨b, 0, none⟩)) (((((W.setCell ⟨b, 0, none⟩ (.int .i64 s.I)).setCell ⟨b, 1, none⟩ (.int .i64 s.R)).setCell ⟨b, 2, none⟩ (.int .i64 s.D)).setCell ⟨b, 3, none⟩ (.int .i64 s.B)).setCell ⟨b, 4, none⟩ (.int .i64 s.G)) :=
  ⟨_, rfl, hA.set5, hg, below_set5 hb hg⟩

set_option maxRecDepth 20000 in
set_option maxHeartbeats 8000000 in
theorem r10arrive_yes (r : Nat) (F : Nat → Prop) (t : TS) (w : World) (at_ n : Int) (h : RT w r F t) (g : GoodT t) (hc : t.came ≤ 100000) (ha : ArrOk at_ n) (hcut : t.cut = false) (hl : (t.l.length : Int) + n ≤ 64) :
    Calls Try.prog 20 #[.pointer (some ⟨r, 0, none⟩), .int .i64 at_, .int .i64 n] w fun z w' => z = .returned (.int .i64 0) ∧ ∃ F', RT w' r F' (comeN at_ n.toNat t) ∧ Moves F F' w w' := by
  obtain ⟨a0, a1, n0, n1⟩ := ha
  have t1 : decide (at_ < 0) = false := by simp; omega
  have t2 : decide (1099511627776 < at_) = false := by simp; omega
  have t3 : decide (n < 1) = false := by simp; omega
  have t4 : decide (64 < n) = false := by simp; omega
  have H := Lib.hid h
  have G := Lib.hid g
  have HL := Lib.hid hl
  have few := g.few
  obtain ⟨v, hb, hq, _, _⟩ := h
  obtain ⟨a, cap, rfl, _, _⟩ := hq.val
  obtain ⟨ln, hln⟩ : ∃ ln, t.l.length = ln := ⟨_, rfl⟩
  rw [hln] at hb hl few
  have c3 := hb.cell 3
  have c6 := hb.cell 6
  simp [rtC] at c3 c6
  rw [hcut] at c3
  have wl : IntKind.i64.wrap ((ln : Int) + n) = (ln : Int) + n := IntWalk.i64_in _ (by omega)
  have t5 : decide (64 < (ln : Int) + n) = false := by simp; omega
  have LI := Lib.hid (h := H.out.lies)
  clear hb hq hln few hcut
  go_enter Try.func20, Try.ntmps20
  go_wp2_with fail
  go_loopw [7] (fun i wr => ∃ (k : Nat) (F' : Nat → Prop), i = .int .i64 (k : Int) ∧ (k : Int) ≤ n ∧ RT wr r F' (comeN at_ k t) ∧ Moves F F' w wr) (fun i _ => n.toNat - (intOf i).toNat)
  case atStart => exact ⟨0, F, rfl, by omega, H.out, Moves.refl LI.out⟩
  case round =>
    obtain ⟨k, F', rfl, hk, hrt, hmv⟩ := hrel
    clear c3 c6
    by_cases hlt : (k : Int) < n
    · have d : decide ((k : Int) < n) = true := by simp; omega
      have wk : IntKind.i64.wrap ((k : Int) + 1) = (k : Int) + 1 := IntWalk.i64_in _ (by omega)
      have GK := Lib.hid (good_comeN G.out a1 k (by have := HL.out; omega))
      have CK := Lib.hid (comeN_came at_ k t)
      have LK := Lib.hid (comeN_len at_ k t)
      have NX := Lib.hid (comeN_succ at_ k t)
      have MV := Lib.hid hmv
      obtain ⟨u, hu⟩ : ∃ u, comeN at_ k t = u := ⟨_, rfl⟩
      rw [hu] at hrt GK CK LK NX
      clear hmv hu
      obtain ⟨v, hb, hq, hn, hF⟩ := hrt
      have VV := Lib.hid hq.val
      have c5 := hb.cell 5
      have f5 := hb.free 5
      simp [rtC] at c5
      have cm : 0 ≤ u.came := GK.out.came0
      have wc1 : IntKind.i64.wrap (u.came + 1) = u.came + 1 := IntWalk.i64_in _ (by have := CK.out; omega)
      have HB := Lib.hid hb; have HQ := Lib.hid hq; have HN := Lib.hid hn; have HF := Lib.hid hF
      clear hb hq hn hF
      go_upto_region 11 with fail
      obtain ⟨W1, hW1⟩ : ∃ W1, wr.setCell ⟨r, 5, none⟩ (.int .i64 (u.came + 1)) = W1 := ⟨_, rfl⟩
      have fr := (HF.out r).mpr (.inl rfl)
      have R1 := Lib.hid (show Blk W1 46 r (rtC { u with came := u.came + 1 } v) by rw [← hW1]; exact HB.out.set 5 _)
      have K1 := Lib.hid (show Keeps F' wr W1 by rw [← hW1]; exact (Keeps.refl F' wr).set (.inl fr) _ _)
      have Q1 := Lib.hid (show QueS W1 v u.l from QueR.keeps HQ.out (F := fun k => k = r) (by rw [← hW1]; exact (Keeps.refl (fun k => k = r) wr).set (.inl rfl) _ _) (fun g e q => HN.out (by rw [e, q])))
      rw [hW1]
      clear hW1 c5 f5
      obtain ⟨E, hE⟩ : ∃ E, u.E = E := ⟨_, rfl⟩
      obtain ⟨P, hP⟩ : ∃ P, u.P = P := ⟨_, rfl⟩
      obtain ⟨O, hO⟩ : ∃ O, u.O = O := ⟨_, rfl⟩
      obtain ⟨c1, hc1⟩ : ∃ c, u.came + 1 = c := ⟨_, rfl⟩
      have HM := Lib.hid (show MayBe E P by rw [← hE, ← hP]; exact GK.out.may)
      have O0 := Lib.hid (show 0 ≤ O by rw [← hO]; exact GK.out.O0)
      have O1 := Lib.hid (show O ≤ 1099511627776 by rw [← hO]; exact GK.out.O1)
      have NC := Lib.hid (show Nth c1 from ⟨by omega, by have := CK.out; omega⟩)
      have HE := Lib.hid hE; have HP := Lib.hid hP; have HO := Lib.hid hO; have HC := Lib.hid hc1
      obtain ⟨s, hs⟩ : ∃ s, ofV E P c1 O = s := ⟨_, rfl⟩
      have HS := Lib.hid hs
      have KEPT := Lib.hid (show ∀ w' : World, Below W1.heap.size W1 w' → w'.cell? ⟨r, 0, none⟩ = some (.int .i64 E) ∧ w'.cell? ⟨r, 1, none⟩ = some (.int .i64 P) ∧ w'.cell? ⟨r, 5, none⟩ = some (.int .i64 c1) ∧ w'.cell? ⟨r, 4, none⟩ = some (.int .i64 O) from fun w' h => by
        have b1 := R1.out.below h
        have d0 := b1.cell 0; have d1 := b1.cell 1; have d5 := b1.cell 5; have d4 := b1.cell 4
        simp only [rtC, hE, hP, hO, hc1] at d0 d1 d5 d4
        exact ⟨d0, d1, d5, d4⟩)
      have BB := Lib.hid ((Below.refl W1.heap.size W1).drew)
      rw [hc1]
      clear hE hP hO hc1 hs
      go_cut [8] (fun s8 wx => SBox W1 s s8 wx)
      case first =>
        go_region_held3 (fun w' => w'.cell? ⟨r, 0, none⟩ = some (.int .i64 E) ∧ w'.cell? ⟨r, 1, none⟩ = some (.int .i64 P) ∧ w'.cell? ⟨r, 5, none⟩ = some (.int .i64 c1) ∧ w'.cell? ⟨r, 4, none⟩ = some (.int .i64 O))
          (((with_reducible refine KEPT.out _ ?_); first | with_reducible exact below_set5 BB.out AG.out | with_reducible exact BB.out | with_reducible exact (wbox _ _).drew | with_reducible exact below_next BB.out (wbox _ _)))
          (first
            | (go_at_call 30; (with_reducible refine (ofV_of E P c1 O _ HM.out NC.out O0.out (by have := O1.out; omega) s HS.out).mono ?_); rintro e w4 ⟨rfl, hb⟩; (first | (with_reducible have BB := Lib.hid (below_next BB.out hb)) | (have AG := Lib.hid (Nat.le_refl W1.heap.size); have A := Lib.hid ((Blk.new W1 35 #[.int .i64 0, .int .i64 0, .int .i64 0, .int .i64 0, .int .i64 0]).drew.below hb); have BB := Lib.hid (below_next (wbox W1 (Obj.cells #[.int .i64 0, .int .i64 0, .int .i64 0, .int .i64 0, .int .i64 0] 35)).drew hb); have y0 := A.out.cell 0; have y1 := A.out.cell 1; have y2 := A.out.cell 2; have y3 := A.out.cell 3; have y4 := A.out.cell 4; have fy : ∀ o, w4.frozen? ⟨W1.heap.size, o, none⟩ = false := fun o => A.out.free o; simp at y0 y1 y2 y3 y4)); clear hb))
        all_goals
          go_wp2_with fail
          go_meet
          first
            | with_reducible exact sbox_new BB.out
            | with_reducible exact sbox_set BB.out A.out AG.out
      case rest =>
        obtain ⟨b, rfl, hsb, hbg, hbel⟩ := hcut
        clear KEPT BB
        obtain ⟨av, cv, rfl, lc1, lc2⟩ := VV.out
        obtain ⟨lu, hlu⟩ : ∃ lu, u.l.length = lu := ⟨_, rfl⟩
        have RX := Lib.hid (R1.out.below hbel)
        have QX := Lib.hid (QueR.below Q1.out hbel)
        have SX := Lib.hid hsb
        have KX := Lib.hid (K1.out.next hbel)
        have nrb : ¬ r = b := fun e => by have := R1.out.lt; omega
        have MX := Lib.hid (show Lies F' wr from fun k q => MV.out.lt k q)
        have x0 := hsb.cell 0; have x1 := hsb.cell 1; have x2 := hsb.cell 2; have x3 := hsb.cell 3; have x4 := hsb.cell 4
        simp at x0 x1 x2 x3 x4
        have LO := Lib.hid (show lateO u at_ = if s.R < at_ then O + at_ - s.R else O by
          unfold lateO
          rw [HE.out, HP.out, HO.out, HC.out, ← HS.out]
          show (if wR E P c1 + O < at_ then at_ - wR E P c1 else O) = if wR E P c1 + O < at_ then O + at_ - (wR E P c1 + O) else O
          split <;> omega)
        have SW1 := Lib.hid K1.out.size
        clear hsb hbel R1 Q1 K1
        by_cases hlate : s.R < at_
        · have tl : decide (s.R < at_) = true := by simp; omega
          have LO1 := Lib.hid (show lateO u at_ = O + at_ - s.R by rw [LO.out, if_pos hlate])
          have sr : s.R = wR E P c1 + O := by rw [← HS.out]; rfl
          have wn := wR_nonneg (E := E) (P := P) (i := c1) HM.out.1 (by have := HM.out.1; have := HM.out.2.1; omega) NC.out.1
          have o0 := O0.out
          have o1 := O1.out
          have w1 : IntKind.i64.wrap (O + at_) = O + at_ := IntWalk.i64_in _ (by omega)
          obtain ⟨O2, hO2⟩ : ∃ O2, O + at_ - s.R = O2 := ⟨_, rfl⟩
          have w2 : IntKind.i64.wrap (O + at_ - s.R) = O2 := by rw [← hO2]; exact IntWalk.i64_in _ (by omega)
          have O20 := Lib.hid (show 0 ≤ O2 by omega)
          have O21 := Lib.hid (show O2 ≤ 1099511627776 by omega)
          rw [hO2] at LO1
          obtain ⟨s2, hs2⟩ : ∃ s2, ofV E P c1 O2 = s2 := ⟨_, rfl⟩
          have HS2 := Lib.hid hs2
          clear LO hlate sr wn hO2 hs2
          have c4 := RX.out.cell 4
          have f4 := RX.out.free 4
          simp only [rtC] at c4
          change _ = some (Value.int .i64 u.O) at c4
          rw [HO.out] at c4
          go_upto_region 13 with fail
          go_region
          all_goals
            obtain ⟨W3, hW3⟩ : ∃ W3, World.drew (wc.setCell ⟨r, 4, none⟩ (.int .i64 O2)) = W3 := ⟨_, rfl⟩
            have fr3 := (HF.out r).mpr (.inl rfl)
            have RZ := Lib.hid (show Blk W3 46 r (rtC { u with came := u.came + 1, O := O2 } (.slice av u.l.length cv)) by rw [← hW3]; exact (RX.out.set 4 _).drew)
            have SZ := Lib.hid (show Blk W3 35 b #[.int .i64 s.I, .int .i64 s.R, .int .i64 s.D, .int .i64 s.B, .int .i64 s.G] by rw [← hW3]; exact (SX.out.other _ _ (Ne.symm nrb)).drew)
            have KZ := Lib.hid (show Keeps F' wr W3 by rw [← hW3]; exact (KX.out.set (.inl fr3) _ _).drew)
            have QZ := Lib.hid (show QueS W3 (.slice av u.l.length cv) u.l by
              rw [← hW3]
              refine QueR.carry QX.out (fun g hg => ?_)
              exact Below.heap_setCell wc ⟨r, 4, none⟩ _ g (fun e => HN.out (by rw [hg, e])))
            have WB := Lib.hid (show wr.heap.size ≤ b from Nat.le_trans (show wr.heap.size ≤ W1.heap.size from SW1.out) hbg)
            rw [hW3]
            clear hW3 c4 f4 x0 x1 x2 x3 x4
            have x0 := SZ.out.cell 0; have x1 := SZ.out.cell 1; have x2 := SZ.out.cell 2; have x3 := SZ.out.cell 3; have x4 := SZ.out.cell 4
            simp at x0 x1 x2 x3 x4
            have KEPT := Lib.hid (show ∀ w' : World, w'.heap[r]? = W3.heap[r]? → w'.cell? ⟨r, 0, none⟩ = some (.int .i64 E) ∧ w'.cell? ⟨r, 1, none⟩ = some (.int .i64 P) ∧ w'.cell? ⟨r, 5, none⟩ = some (.int .i64 c1) ∧ w'.cell? ⟨r, 4, none⟩ = some (.int .i64 O2) from fun w' h => by
              have b1 : Blk w' 46 r (rtC { u with came := u.came + 1, O := O2 } (.slice av u.l.length cv)) := h.trans RZ.out
              have d0 := b1.cell 0; have d1 := b1.cell 1; have d5 := b1.cell 5; have d4 := b1.cell 4
              simp only [rtC, HE.out, HP.out, HC.out] at d0 d1 d5 d4
              exact ⟨d0, d1, d5, d4⟩)
            have BB := Lib.hid ((Below.refl W3.heap.size W3).drew)
            have LR3 := Lib.hid RZ.out.lt
            have nbr : ¬ r = b := nrb
            go_upto_region 14 with fail
            go_region_held3 (fun w' => w'.cell? ⟨r, 0, none⟩ = some (.int .i64 E) ∧ w'.cell? ⟨r, 1, none⟩ = some (.int .i64 P) ∧ w'.cell? ⟨r, 5, none⟩ = some (.int .i64 c1) ∧ w'.cell? ⟨r, 4, none⟩ = some (.int .i64 O2))
              (((with_reducible refine KEPT.out _ ?_); first | with_reducible exact BB.out.block r LR3.out | (simp only [Below.heap_setCell _ (⟨b, 0, none⟩ : Addr) _ r nbr, Below.heap_setCell _ (⟨b, 1, none⟩ : Addr) _ r nbr, Below.heap_setCell _ (⟨b, 2, none⟩ : Addr) _ r nbr, Below.heap_setCell _ (⟨b, 3, none⟩ : Addr) _ r nbr, Below.heap_setCell _ (⟨b, 4, none⟩ : Addr) _ r nbr]; exact BB.out.block r LR3.out)))
              (first
                | (go_at_call 30; (with_reducible refine (ofV_of E P c1 O2 _ HM.out NC.out O20.out (by have := O21.out; omega) s2 HS2.out).mono ?_); rintro e w4 ⟨rfl, hb⟩; have BB := Lib.hid (below_next BB.out hb); have S4 := Lib.hid (SZ.out.below BB.out); clear hb; have y0 := S4.out.cell 0; have y1 := S4.out.cell 1; have y2 := S4.out.cell 2; have y3 := S4.out.cell 3; have y4 := S4.out.cell 4; have fy : ∀ o, w4.frozen? ⟨b, o, none⟩ = false := fun o => S4.out.free o; simp at y0 y1 y2 y3 y4))
            all_goals
              obtain ⟨W5, hW5⟩ : ∃ W5, ((((w4.setCell ⟨b, 0, none⟩ (.int .i64 s2.I)).setCell ⟨b, 1, none⟩ (.int .i64 s2.R)).setCell ⟨b, 2, none⟩ (.int .i64 s2.D)).setCell ⟨b, 3, none⟩ (.int .i64 s2.B)).setCell ⟨b, 4, none⟩ (.int .i64 s2.G) = W5 := ⟨_, rfl⟩
              have RY := Lib.hid (show Blk W5 46 r (rtC { u with came := u.came + 1, O := lateO u at_ } (.slice av u.l.length cv)) by rw [← hW5, LO1.out]; exact (((((RZ.out.below BB.out).other _ _ nbr).other _ _ nbr).other _ _ nbr).other _ _ nbr).other _ _ nbr)
              have SX := Lib.hid (show Blk W5 35 b #[.int .i64 s2.I, .int .i64 s2.R, .int .i64 s2.D, .int .i64 s2.B, .int .i64 s2.G] by rw [← hW5]; exact S4.out.set5)
              have KX := Lib.hid (show Keeps F' wr W5 by rw [← hW5]; exact (((((KZ.out.next BB.out).set (.inr WB.out) _ _).set (.inr WB.out) _ _).set (.inr WB.out) _ _).set (.inr WB.out) _ _).set (.inr WB.out) _ _)
              have QX := Lib.hid (show QueS W5 (.slice av u.l.length cv) u.l by
                rw [← hW5]
                refine QueR.carry (QueR.below QZ.out BB.out) (fun g hg => ?_)
                have ne : ¬ g = b := fun e => by
                  have h1 := MX.out g ((HF.out g).mpr (.inr hg))
                  have := WB.out
                  omega
                simp only [Below.heap_setCell _ (⟨b, 0, none⟩ : Addr) _ g ne, Below.heap_setCell _ (⟨b, 1, none⟩ : Addr) _ g ne, Below.heap_setCell _ (⟨b, 2, none⟩ : Addr) _ g ne, Below.heap_setCell _ (⟨b, 3, none⟩ : Addr) _ g ne, Below.heap_setCell _ (⟨b, 4, none⟩ : Addr) _ g ne])
              rw [hW5]
              clear hW5 y0 y1 y2 y3 y4 fy x0 x1 x2 x3 x4 KEPT
              have x0 := SX.out.cell 0; have x1 := SX.out.cell 1; have x2 := SX.out.cell 2; have x3 := SX.out.cell 3; have x4 := SX.out.cell 4
              simp at x0 x1 x2 x3 x4
              have c6 := RY.out.cell 6
              have f6 := RY.out.free 6
              simp only [rtC, hlu] at c6
              change _ = some (Value.slice av lu cv) at c6
              have c6a := (RY.out.alloc (Obj.cells #[.int .i64 s2.I, .int .i64 s2.R, .int .i64 s2.D, .int .i64 s2.B, .int .i64 s2.G] 35)).cell 6
              simp only [rtC, hlu] at c6a
              change _ = some (Value.slice av lu cv) at c6a
              obtain ⟨i0, hi, hz0, hz1, hz2⟩ := info_parts Try.infoS
              go_upto_region 15 with fail
              have BW2 := Lib.hid (show Below W5.heap.size W5 (World.drew (W5.alloc (Obj.cells #[.int .i64 s2.I, .int .i64 s2.R, .int .i64 s2.D, .int .i64 s2.B, .int .i64 s2.G] 35))) from ((Below.refl W5.heap.size W5).alloc (Nat.le_refl _) _).drew)
              have QB2 := Lib.hid (show QueR (World.drew (W5.alloc (Obj.cells #[.int .i64 s2.I, .int .i64 s2.R, .int .i64 s2.D, .int .i64 s2.B, .int .i64 s2.G] 35))) 0 35 5 (.slice av lu cv) lu (u.l.map Sb.cs).flatten from QueR.below (by have := QX.out; unfold QueS at this; rw [hlu] at this; exact this) BW2.out)
              have NB2 := Lib.hid (show ∀ j x, s2.cs[j]? = some x → World.cell? (World.drew (W5.alloc (Obj.cells #[.int .i64 s2.I, .int .i64 s2.R, .int .i64 s2.D, .int .i64 s2.B, .int .i64 s2.G] 35))) ((⟨W5.heap.size, 0, none⟩ : Addr).add j) = some x from World.news_of_block (cs := #[.int .i64 s2.I, .int .i64 s2.R, .int .i64 s2.D, .int .i64 s2.B, .int .i64 s2.G]) (t := 35) (fr := (0, 0)) (show (World.drew (W5.alloc (Obj.cells #[.int .i64 s2.I, .int .i64 s2.R, .int .i64 s2.D, .int .i64 s2.B, .int .i64 s2.G] 35)) : World).heap[W5.heap.size]? = _ from Blk.new W5 35 _))
              have RB2 := Lib.hid (show Blk (World.drew (W5.alloc (Obj.cells #[.int .i64 s2.I, .int .i64 s2.R, .int .i64 s2.D, .int .i64 s2.B, .int .i64 s2.G] 35))) 46 r (rtC { u with came := u.came + 1, O := lateO u at_ } (.slice av u.l.length cv)) from RY.out.below BW2.out)
              have LR2 := Lib.hid RB2.out.lt
              have KB2 := Lib.hid (show Keeps F' wr (World.drew (W5.alloc (Obj.cells #[.int .i64 s2.I, .int .i64 s2.R, .int .i64 s2.D, .int .i64 s2.B, .int .i64 s2.G] 35))) from KX.out.next BW2.out)
              have LQ2 := Lib.hid (show W5.heap.size ≤ (World.drew (W5.alloc (Obj.cells #[.int .i64 s2.I, .int .i64 s2.R, .int .i64 s2.D, .int .i64 s2.B, .int .i64 s2.G] 35)) : World).heap.size from BW2.out.size)
              have FB := Lib.hid (show lu + 1 ≤ maxLen ∧ (lu + 1) * 40 ≤ 140737488355328 by have := GK.out.few; unfold maxLen; omega)
              go_region_law (refine step_append_que (w := World.drew (W5.alloc (Obj.cells #[.int .i64 s2.I, .int .i64 s2.R, .int .i64 s2.D, .int .i64 s2.B, .int .i64 s2.G] 35))) rfl _ _ 44 rfl 0 35 i0 sub0.v 5 40 Try.underlying44 hi hz0 hz1 hz2 rfl (by decide) (.slice av lu cv) lu (u.l.map Sb.cs).flatten rfl QB2.out ⟨W5.heap.size, 0, none⟩ 1 1 s2.cs rfl rfl (by omega) NB2.out (oneS s2) FB.out.1 FB.out.2 (Nat.zero_le _) ?_; intro g2 o2 cp2 w2 hq2 hg2 hor; have R2 := Lib.hid (show Blk w2 46 r (rtC { u with came := u.came + 1, O := lateO u at_ } (.slice av u.l.length cv)) from (hg2.block r LR2.out (fun e => HN.out (by rw [hlu]; exact e.symm))).trans RB2.out); have c6b := R2.out.cell 6; have f6b := R2.out.free 6; simp only [rtC, hlu] at c6b; change _ = some (Value.slice av lu cv) at c6b; have Q2 := Lib.hid hq2; have G2 := Lib.hid (show Keeps F' wr w2 from KB2.out.grown hg2 (fun x e => .inl ((HF.out x).mpr (.inr (by rw [hlu]; exact e))))); have OR := Lib.hid (show (Value.slice av lu cv).ownBlock = some g2 ∨ W5.heap.size ≤ g2 from hor.imp id (fun q => Nat.le_trans (LQ2.out) q)); clear hq2 hg2 hor)
              all_goals
                obtain ⟨W6, hW6⟩ : ∃ W6, w2.setCell ⟨r, 6, none⟩ (.slice (some ⟨g2, o2, none⟩) (lu + 1) cp2) = W6 := ⟨_, rfl⟩
                have fr2 := (HF.out r).mpr (.inl rfl)
                have ngr : ¬ g2 = r := fun e => by
                  rcases OR.out with q | q
                  · exact HN.out (by rw [hlu, q, e])
                  · have := RY.out.lt; omega
                have FIN := Lib.hid (show RT W6 r (fun x => x = r ∨ x = g2) (comeN at_ (k + 1) t) ∧ Moves F (fun x => x = r ∨ x = g2) w W6 by
                  rw [NX.out, ← hW6]
                  refine ⟨⟨.slice (some ⟨g2, o2, none⟩) (lu + 1) cp2, R2.out.set 6 _, ?_, fun e => ngr (by simpa [Value.ownBlock] using e), fun x => by simp [Value.ownBlock, eq_comm]⟩, MV.out.trans ⟨G2.out.set (.inl fr2) _ _, fun x q => ?_, fun x q => ?_⟩⟩
                  · have hq3 : QueR w2 0 35 5 (.slice (some ⟨g2, o2, none⟩) (lu + 1) cp2) (u.l ++ [s2]).length ((u.l ++ [s2]).map Sb.cs).flatten := by
                      have := Q2.out
                      rw [List.length_append, hlu, List.map_append, List.flatten_append]
                      simpa using this
                    show QueR _ 0 35 5 _ (come1 u at_).l.length ((come1 u at_).l.map Sb.cs).flatten
                    rw [show (come1 u at_).l = u.l ++ [s2] from by show u.l ++ [ofV u.E u.P (u.came + 1) (lateO u at_)] = _; rw [LO1.out, HE.out, HP.out, HC.out, HS2.out]]
                    exact hq3.carry (fun x hx => by
                      simp only [Value.ownBlock, Option.some.injEq] at hx
                      subst hx
                      exact Below.heap_setCell _ _ _ _ ngr)
                  · rcases q with q | q
                    · subst q; exact .inl fr2
                    · subst q
                      rcases OR.out with q | q
                      · exact .inl ((HF.out _).mpr (.inr (by rw [hlu]; exact q)))
                      · have := KX.out.size; exact .inr (by omega)
                  · rcases q with q | q
                    · subst q; have := R2.out.lt; simpa using this
                    · subst q; have := (Q2.out.lt _ rfl).2; simpa using this)
                rw [hW6]
                go_wp2
                go_roundw
                case rel => exact ⟨k + 1, fun x => x = r ∨ x = g2, by simp, by omega, FIN.out.1, FIN.out.2⟩
                case measure => simp [intOf]; omega
        · have tl : decide (s.R < at_) = false := by simp; omega
          have LO1 := Lib.hid (show lateO u at_ = O by rw [LO.out, if_neg hlate])
          have RY := Lib.hid (show Blk wc 46 r (rtC { u with came := u.came + 1, O := lateO u at_ } (.slice av u.l.length cv)) by rw [LO1.out, ← HO.out]; exact RX.out)
          clear LO hlate
          have c6 := RY.out.cell 6
          have f6 := RY.out.free 6
          simp only [rtC, hlu] at c6
          change _ = some (Value.slice av lu cv) at c6
          have c6a := (RY.out.alloc (Obj.cells #[.int .i64 s.I, .int .i64 s.R, .int .i64 s.D, .int .i64 s.B, .int .i64 s.G] 35)).cell 6
          simp only [rtC, hlu] at c6a
          change _ = some (Value.slice av lu cv) at c6a
          obtain ⟨i0, hi, hz0, hz1, hz2⟩ := info_parts Try.infoS
          go_upto_region 15 with fail
          have BW2 := Lib.hid (show Below wc.heap.size wc (World.drew (wc.alloc (Obj.cells #[.int .i64 s.I, .int .i64 s.R, .int .i64 s.D, .int .i64 s.B, .int .i64 s.G] 35))) from ((Below.refl wc.heap.size wc).alloc (Nat.le_refl _) _).drew)
          have QB2 := Lib.hid (show QueR (World.drew (wc.alloc (Obj.cells #[.int .i64 s.I, .int .i64 s.R, .int .i64 s.D, .int .i64 s.B, .int .i64 s.G] 35))) 0 35 5 (.slice av lu cv) lu (u.l.map Sb.cs).flatten from QueR.below (by have := QX.out; unfold QueS at this; rw [hlu] at this; exact this) BW2.out)
          have NB2 := Lib.hid (show ∀ j x, s.cs[j]? = some x → World.cell? (World.drew (wc.alloc (Obj.cells #[.int .i64 s.I, .int .i64 s.R, .int .i64 s.D, .int .i64 s.B, .int .i64 s.G] 35))) ((⟨wc.heap.size, 0, none⟩ : Addr).add j) = some x from World.news_of_block (cs := #[.int .i64 s.I, .int .i64 s.R, .int .i64 s.D, .int .i64 s.B, .int .i64 s.G]) (t := 35) (fr := (0, 0)) (show (World.drew (wc.alloc (Obj.cells #[.int .i64 s.I, .int .i64 s.R, .int .i64 s.D, .int .i64 s.B, .int .i64 s.G] 35)) : World).heap[wc.heap.size]? = _ from Blk.new wc 35 _))
          have RB2 := Lib.hid (show Blk (World.drew (wc.alloc (Obj.cells #[.int .i64 s.I, .int .i64 s.R, .int .i64 s.D, .int .i64 s.B, .int .i64 s.G] 35))) 46 r (rtC { u with came := u.came + 1, O := lateO u at_ } (.slice av u.l.length cv)) from RY.out.below BW2.out)
          have LR2 := Lib.hid RB2.out.lt
          have KB2 := Lib.hid (show Keeps F' wr (World.drew (wc.alloc (Obj.cells #[.int .i64 s.I, .int .i64 s.R, .int .i64 s.D, .int .i64 s.B, .int .i64 s.G] 35))) from KX.out.next BW2.out)
          have LQ2 := Lib.hid (show wc.heap.size ≤ (World.drew (wc.alloc (Obj.cells #[.int .i64 s.I, .int .i64 s.R, .int .i64 s.D, .int .i64 s.B, .int .i64 s.G] 35)) : World).heap.size from BW2.out.size)
          have FB := Lib.hid (show lu + 1 ≤ maxLen ∧ (lu + 1) * 40 ≤ 140737488355328 by have := GK.out.few; unfold maxLen; omega)
          go_region_law (refine step_append_que (w := World.drew (wc.alloc (Obj.cells #[.int .i64 s.I, .int .i64 s.R, .int .i64 s.D, .int .i64 s.B, .int .i64 s.G] 35))) rfl _ _ 44 rfl 0 35 i0 sub0.v 5 40 Try.underlying44 hi hz0 hz1 hz2 rfl (by decide) (.slice av lu cv) lu (u.l.map Sb.cs).flatten rfl QB2.out ⟨wc.heap.size, 0, none⟩ 1 1 s.cs rfl rfl (by omega) NB2.out (oneS s) FB.out.1 FB.out.2 (Nat.zero_le _) ?_; intro g2 o2 cp2 w2 hq2 hg2 hor; have R2 := Lib.hid (show Blk w2 46 r (rtC { u with came := u.came + 1, O := lateO u at_ } (.slice av u.l.length cv)) from (hg2.block r LR2.out (fun e => HN.out (by rw [hlu]; exact e.symm))).trans RB2.out); have c6b := R2.out.cell 6; have f6b := R2.out.free 6; simp only [rtC, hlu] at c6b; change _ = some (Value.slice av lu cv) at c6b; have Q2 := Lib.hid hq2; have G2 := Lib.hid (show Keeps F' wr w2 from KB2.out.grown hg2 (fun x e => .inl ((HF.out x).mpr (.inr (by rw [hlu]; exact e))))); have OR := Lib.hid (show (Value.slice av lu cv).ownBlock = some g2 ∨ wc.heap.size ≤ g2 from hor.imp id (fun q => Nat.le_trans (LQ2.out) q)); clear hq2 hg2 hor)
          all_goals
            obtain ⟨W3, hW3⟩ : ∃ W3, w2.setCell ⟨r, 6, none⟩ (.slice (some ⟨g2, o2, none⟩) (lu + 1) cp2) = W3 := ⟨_, rfl⟩
            have fr2 := (HF.out r).mpr (.inl rfl)
            have ngr : ¬ g2 = r := fun e => by
              rcases OR.out with q | q
              · exact HN.out (by rw [hlu, q, e])
              · have := RY.out.lt; omega
            have FIN := Lib.hid (show RT W3 r (fun x => x = r ∨ x = g2) (comeN at_ (k + 1) t) ∧ Moves F (fun x => x = r ∨ x = g2) w W3 by
              rw [NX.out, ← hW3]
              refine ⟨⟨.slice (some ⟨g2, o2, none⟩) (lu + 1) cp2, R2.out.set 6 _, ?_, fun e => ngr (by simpa [Value.ownBlock] using e), fun x => by simp [Value.ownBlock, eq_comm]⟩, MV.out.trans ⟨G2.out.set (.inl fr2) _ _, fun x q => ?_, fun x q => ?_⟩⟩
              · have hq3 : QueR w2 0 35 5 (.slice (some ⟨g2, o2, none⟩) (lu + 1) cp2) (u.l ++ [s]).length ((u.l ++ [s]).map Sb.cs).flatten := by
                  have := Q2.out
                  rw [List.length_append, hlu, List.map_append, List.flatten_append]
                  simpa using this
                show QueR _ 0 35 5 _ (come1 u at_).l.length ((come1 u at_).l.map Sb.cs).flatten
                rw [show (come1 u at_).l = u.l ++ [s] from by show u.l ++ [ofV u.E u.P (u.came + 1) (lateO u at_)] = _; rw [LO1.out, HE.out, HP.out, HC.out, HS.out]]
                exact hq3.carry (fun x hx => by
                  simp only [Value.ownBlock, Option.some.injEq] at hx
                  subst hx
                  exact Below.heap_setCell _ _ _ _ ngr)
              · rcases q with q | q
                · subst q; exact .inl fr2
                · subst q
                  rcases OR.out with q | q
                  · exact .inl ((HF.out _).mpr (.inr (by rw [hlu]; exact q)))
                  · have := KX.out.size; exact .inr (by omega)
              · rcases q with q | q
                · subst q; have := R2.out.lt; simpa using this
                · subst q; have := (Q2.out.lt _ rfl).2; simpa using this)
            rw [hW3]
            go_wp2
            go_roundw
            case rel => exact ⟨k + 1, fun x => x = r ∨ x = g2, by simp, by omega, FIN.out.1, FIN.out.2⟩
            case measure => simp [intOf]; omega
    · have d : decide ((k : Int) < n) = false := by simp; omega
      have kn : n.toNat = k := by omega
      go_wp2
      go_ret
      exact ⟨rfl, F', by first | exact hrt | (rw [kn]; exact hrt), hmv⟩
end Go.Proofs.Ythaoijmjkmgebaa
