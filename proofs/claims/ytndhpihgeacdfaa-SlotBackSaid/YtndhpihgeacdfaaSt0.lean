/-
  The document's Read (regattaref16): contract.
-/
import Derived.Test.YtndhpihgeacdfaaSs9
import Derived.Test.YtndhpihgeacdfaaSo1
namespace Go.Proofs.Ytndhpihgeacdfaa
open Go.RowKit

def FarG (g : Nat) (vs : List (Option Addr × Nat × Nat)) : Prop := ∀ u ∈ vs, 0 < u.2.1 → ∀ ad : Addr, u.1 = some ad → g < ad.block
theorem OutK.keeps {base g : Nat} {W W' : World} {v : Value} {l : List Sk} {vs : List (Option Addr × Nat × Nat)} (h : OutK base W v l vs) (hb : g < base) (hf : FarG g vs) (k : Keeps (fun k => k = g) W W') : OutK base W' v l vs := by
  refine ⟨owns_keeps h.own k (fun x e q => by have := (h.own.lt x e).1; omega), h.len, fun i s u hs hu => ?_, fun u hu z ad e => ⟨Nat.lt_of_lt_of_le (h.far u hu z ad e).1 k.size, (h.far u hu z ad e).2⟩⟩
  have hr := h.runs i s u hs hu
  rcases Nat.eq_zero_or_pos u.2.1 with z | z
  · unfold RowU at hr ⊢
    rw [z] at hr ⊢
    exact ⟨hr.1, hr.2.1, hr.2.2.1, hr.2.2.2.1, fun i hi => by omega⟩
  · exact hr.same fun ad e => k.block ad.block (h.far u (List.mem_of_getElem? hu) z ad e).1 (fun q => by have := hf u (List.mem_of_getElem? hu) z ad e; omega)
/-- the one row that has these bytes is given back, or none -/
def ReadOut (l : List UInt8) (w : World) (e : Ending) (w' : World) : Prop :=
  ((∃ x b c, readV l = some x ∧ e = .returned (.tuple #[.slice b x.length c, .bool true]) ∧ RowK w' b x.length c x) ∨ (readV l = none ∧ e = .returned (.tuple #[.slice none 0 0, .bool false]))) ∧ Below w.heap.size w w'
theorem ReadOut.no {l : List UInt8} {w w' : World} (h : readV l = none) (hb : Below w.heap.size w w') : ReadOut l w (.returned (.tuple #[.slice none 0 0, .bool false])) w' := ⟨.inr ⟨h, rfl⟩, hb⟩
theorem ReadOut.yes {l : List UInt8} {x : List Sk} {w w' : World} {b : Option Addr} {c : Nat} (h : readV l = some x) (hr : RowK w' b x.length c x) (hb : Below w.heap.size w w') : ReadOut l w (.returned (.tuple #[.slice b x.length c, .bool true])) w' := ⟨.inl ⟨x, b, c, h, rfl, hr⟩, hb⟩
set_option maxRecDepth 20000 in
set_option maxHeartbeats 4000000 in
theorem r16row_read_any (s : ByteArray) (w : World) (hs : s.size ≤ 1000000000) :
    Calls Try.prog 14 #[.string s] w (ReadOut s.data.toList w) := by
  have SZ := Lib.hid hs
  obtain ⟨l, hl⟩ : ∃ l, s.data.toList = l := ⟨_, rfl⟩
  have LL := Lib.hid (show l.length = s.size by rw [← hl]; simp)
  clear hs
  go_enter Try.func14, Try.ntmps14
  go_upto_region 2 with fail
  obtain ⟨W1, hW1⟩ : ∃ W1, w.alloc (.cells #[.string s, .int .i64 0, .bool false] 58) = W1 := ⟨_, rfl⟩
  obtain ⟨g, hg⟩ : ∃ g, w.heap.size = g := ⟨_, rfl⟩
  have B1 := Lib.hid (show Below g w W1 by rw [← hW1, ← hg]; exact wbox _ _)
  have X1 := Lib.hid (show Blk W1 58 g #[.string s, .int .i64 (0 : Nat), .bool false] by rw [← hW1, ← hg]; exact Blk.new _ _ _)
  have FG := Lib.hid (show From (fun k => k = g) g from fun k e => by omega)
  rw [hW1, hg]
  have RM := Lib.hid (show readM l = itK l (nextV l (nextV l 0 false 4096).2.1 (nextV l 0 false 4096).2.2 1099511627776).1 0 ⟨[], (nextV l (nextV l 0 false 4096).2.1 (nextV l 0 false 4096).2.2 1099511627776).2.1, (nextV l (nextV l 0 false 4096).2.1 (nextV l 0 false 4096).2.2 1099511627776).2.2⟩ (nextV l 0 false 4096).1.toNat from rfl)
  have hn : 0 ≤ (nextV l 0 false 4096).1 ∧ (nextV l 0 false 4096).1 ≤ 4096 ∧ (nextV l 0 false 4096).2.1 ≤ l.length := headN_bd l
  have ha : 0 ≤ (nextV l (nextV l 0 false 4096).2.1 (nextV l 0 false 4096).2.2 1099511627776).1 ∧ (nextV l (nextV l 0 false 4096).2.1 (nextV l 0 false 4096).2.2 1099511627776).1 ≤ 1099511627776 ∧ (nextV l (nextV l 0 false 4096).2.1 (nextV l 0 false 4096).2.2 1099511627776).2.1 ≤ l.length := headA_bd l
  go_wp2_with fail
  refine (r16next_any s 0 false 4096 g W1 (by omega) SZ.out X1.out).mono ?_
  rintro e w2 ⟨rfl, hx, hk⟩
  rw [hl] at hx
  have X2 := Lib.hid hx
  have B2 := Lib.hid (hk.below B1.out FG.out (by have := X1.out.lt; omega))
  clear hx hk
  go_wp2_with fail
  refine (r16next_any s _ _ 1099511627776 g w2 (by have := hn.2.2; rw [LL.out] at this; exact this) SZ.out X2.out).mono ?_
  rintro e w3 ⟨rfl, hx, hk⟩
  rw [hl] at hx
  have X3 := Lib.hid hx
  have B3 := Lib.hid (hk.below B2.out FG.out (by have := X2.out.lt; omega))
  clear hx hk
  try rw [hl]
  dsimp only
  go_wp2
  obtain ⟨HA, hHA⟩ : ∃ HA, nextV l (nextV l 0 false 4096).2.1 (nextV l 0 false 4096).2.2 1099511627776 = HA := ⟨_, rfl⟩
  rw [hHA] at RM ha X3 ⊢
  clear hHA
  obtain ⟨A, p0, b0⟩ := HA
  obtain ⟨N, hN⟩ : ∃ N, (nextV l 0 false 4096).1 = N := ⟨_, rfl⟩
  rw [hN] at RM hn ⊢
  simp only at ha
  obtain ⟨hn0, hn1, -⟩ := hn
  obtain ⟨ha0, ha1, hp0⟩ := ha
  have X4 := Lib.hid (show Blk w3 58 g #[.string s, .int .i64 p0, .bool b0] from X3.out)
  have RD := Lib.hid (show readM l = itK l A 0 ⟨[], p0, b0⟩ N.toNat from RM.out)
  clear hN X3 RM X1 X2 B1 B2 hW1
  go_loopw [7, 8] (fun v u wr => ∃ (i : Nat) (vs : List (Option Addr × Nat × Nat)), u = .int .i64 i ∧ (i : Int) ≤ N ∧ OutK (g + 1) wr v (itK l A 0 ⟨[], p0, b0⟩ i).slots vs ∧ FarG g vs ∧ Blk wr 58 g #[.string s, .int .i64 (itK l A 0 ⟨[], p0, b0⟩ i).p, .bool (itK l A 0 ⟨[], p0, b0⟩ i).bad] ∧ Below g w wr) (fun _ u _ => 4096 - (intOf u).toNat)
  case atStart => exact ⟨0, [], rfl, hn0, OutK.nil _ _, (fun u h => by simp at h), X4.out, B3.out⟩
  case round =>
    obtain ⟨i, vs, rfl, i1, ho, hf, hx, hb⟩ := hrel
    have O := Lib.hid ho
    have FV := Lib.hid hf
    have X := Lib.hid hx
    have B := Lib.hid hb
    have PB := itK_bd l A i 0 ⟨[], p0, b0⟩ hp0 (by simp)
    have SS := Lib.hid (itK_succ l A i 0 ⟨[], p0, b0⟩)
    clear ho hf hx hb
    by_cases go : (i : Int) < N
    · have c1 : decide ((i : Int) < N) = true := by simp; omega
      cases hbad : (itK l A 0 ⟨[], p0, b0⟩ i).bad with
      | false =>
        rw [hbad] at X
        have z2 := X.out.cell 2
        simp at z2
        have wv : IntKind.i64.wrap (A + i) = A + i := IntWalk.i64_in _ (by omega)
        obtain ⟨q, hq⟩ : ∃ q, (itK l A 0 ⟨[], p0, b0⟩ i).p = q := ⟨_, rfl⟩
        obtain ⟨L, hL⟩ : ∃ L, (itK l A 0 ⟨[], p0, b0⟩ i).slots = L := ⟨_, rfl⟩
        have NX := Lib.hid (show itK l A 0 ⟨[], p0, b0⟩ (i + 1) = ⟨L ++ [⟨A + i, (slotU l q).runs⟩], (slotU l q).p, (slotU l q).bad⟩ by
          rw [SS.out]
          unfold stepK
          rw [if_neg (by rw [hbad]; simp), hq, hL, Nat.zero_add])
        rw [hq] at X PB
        rw [hL] at O PB
        have q1 := PB.1
        have L1 := PB.2.1
        simp only [List.length_nil, Nat.zero_add] at L1
        have ML := Lib.hid (nextV_bd l q false 1024 (by omega) q1)
        clear hq hL PB SS hbad
        obtain ⟨c, hc⟩ : ∃ c, wr.heap.size = c := ⟨_, rfl⟩
        have gc : g < c := by rw [← hc]; exact X.out.lt
        go_wp2_with fail
        obtain ⟨W5, hW5⟩ : ∃ W5, wr.alloc (.cells #[.int .i64 (A + i), .slice none 0 0] 47) = W5 := ⟨_, rfl⟩
        have B5 := Lib.hid (show Below wr.heap.size wr W5 by rw [← hW5]; exact wbox _ _)
        have C5 := Lib.hid (show Blk W5 47 c #[.int .i64 (A + i), .slice none 0 0] by rw [← hW5, ← hc]; exact Blk.new _ _ _)
        have X5 := Lib.hid (X.out.below B5.out)
        have O5 := Lib.hid (O.out.below B5.out)
        rw [hW5]
        refine (r16next_any s q false 1024 g W5 (by rw [← LL.out]; exact q1) SZ.out X5.out).mono ?_
        rintro e w6 ⟨rfl, hx, hk⟩
        rw [hl] at hx
        have X6 := Lib.hid hx
        have C6 := Lib.hid (C5.out.keeps hk (by omega))
        have O6 := Lib.hid (O5.out.keeps (Nat.lt_succ_self g) FV.out hk)
        have B6 := Lib.hid (show Below g w w6 from hk.below (B.out.trans (B5.out.mono (by omega))) FG.out (by have := X5.out.lt; omega))
        have K6 := Lib.hid (show Keeps (fun k => k = g) wr w6 from (Keeps.of (F := fun k => k = g) B5.out).trans hk (fun x e => .inl e))
        clear hx hk hW5
        have SU := Lib.hid (show slotU l q = itU l ⟨[], 0, (nextV l q false 1024).2.1, (nextV l q false 1024).2.2⟩ (nextV l q false 1024).1.toNat from rfl)
        try rw [hl]
        dsimp only
        go_wp2
        obtain ⟨MM, hMM⟩ : ∃ MM, nextV l q false 1024 = MM := ⟨_, rfl⟩
        rw [hMM] at SU ML X6 ⊢
        clear hMM
        obtain ⟨M, p1, b1⟩ := MM
        have ml : 0 ≤ M ∧ M ≤ 1024 ∧ p1 ≤ l.length := ML.out
        obtain ⟨m0, m1, mp⟩ := ml
        have X7 := Lib.hid (show Blk w6 58 g #[.string s, .int .i64 p1, .bool b1] from X6.out)
        have SU2 := Lib.hid (show slotU l q = itU l ⟨[], 0, p1, b1⟩ M.toNat from SU.out)
        have c6 : c < w6.heap.size := C6.out.lt
        clear X6 SU ML B5 C5 X5 O5 O6 B6 X z2 wv c1
        obtain ⟨wq, rfl⟩ : ∃ wq, wq = wr := ⟨_, rfl⟩
        go_loopw [11, 12] (fun c' u wx => ∃ (k : Nat) (vr : Value), u = .int .i64 k ∧ (k : Int) ≤ M ∧ c' = .int .i64 (itU l ⟨[], 0, p1, b1⟩ k).core ∧ Blk wx 47 c #[.int .i64 (A + i), vr] ∧ wx.ownsRow (c + 1) 44 3 vr (itU l ⟨[], 0, p1, b1⟩ k).runs.length ((itU l ⟨[], 0, p1, b1⟩ k).runs.map Ru.cs).flatten ∧ Blk wx 58 g #[.string s, .int .i64 (itU l ⟨[], 0, p1, b1⟩ k).p, .bool (itU l ⟨[], 0, p1, b1⟩ k).bad] ∧ Keeps (fun k => k = g) wq wx) (fun _ u _ => 1024 - (intOf u).toNat)
        case atStart => exact ⟨0, _, rfl, m0, rfl, C6.out, World.ownsRow_nil _ _ _ _, X7.out, K6.out⟩
        case round =>
          obtain ⟨k, vr, rfl, km, rfl, hC, hown, hx, hk⟩ := hrel
          have C := Lib.hid hC
          have OW := Lib.hid hown
          have X := Lib.hid hx
          have KK := Lib.hid hk
          have PB := itU_bd l k ⟨[], 0, p1, b1⟩ mp (Int.le_refl _)
          have SS := Lib.hid (itU_succ l k ⟨[], 0, p1, b1⟩)
          clear hC hown hx hk
          by_cases go2 : (k : Int) < M
          · have d1 : decide ((k : Int) < M) = true := by simp; omega
            cases hbad : (itU l ⟨[], 0, p1, b1⟩ k).bad with
            | false =>
              rw [hbad] at X
              have z2 := X.out.cell 2
              simp at z2
              obtain ⟨y, hy⟩ : ∃ y, (itU l ⟨[], 0, p1, b1⟩ k).p = y := ⟨_, rfl⟩
              obtain ⟨core, hcore⟩ : ∃ core, (itU l ⟨[], 0, p1, b1⟩ k).core = core := ⟨_, rfl⟩
              obtain ⟨R, hR⟩ : ∃ R, (itU l ⟨[], 0, p1, b1⟩ k).runs = R := ⟨_, rfl⟩
              have NU := Lib.hid (show itU l ⟨[], 0, p1, b1⟩ (k + 1) = ⟨R ++ [⟨(n2 l y).1, core + (n1 l y).1, (n3 l y).1⟩], core + (n1 l y).1, (n3 l y).2.1, (n3 l y).2.2⟩ by
                rw [SS.out]
                unfold stepU
                rw [if_neg (by rw [hbad]; simp), hy, hcore, hR])
              rw [hy] at X PB
              rw [hcore] at PB ⊢
              rw [hR] at OW PB
              simp only [List.length_nil, Nat.zero_add, Int.zero_add] at PB
              obtain ⟨y1, r1, co0, co1⟩ := PB
              have N1 := nextV_bd l y false 1023 (by omega) y1
              have N2 := nextV_bd l (n1 l y).2.1 (n1 l y).2.2 1023 (by omega) N1.2.2
              have E1 := Lib.hid (show nextV l y false 1023 = n1 l y from rfl)
              have E2 := Lib.hid (show nextV l (n1 l y).2.1 (n1 l y).2.2 1023 = n2 l y from rfl)
              have E3 := Lib.hid (show nextV l (n2 l y).2.1 (n2 l y).2.2 1099511627776 = n3 l y from rfl)
              rw [E1.out] at N1
              rw [E2.out] at N2
              clear hy hcore hR SS hbad
              have wv : IntKind.i64.wrap (core + (n1 l y).1) = core + (n1 l y).1 := IntWalk.i64_in _ (by omega)
              have LS := Lib.hid (show ∀ v : Nat, v ≤ l.length → v ≤ s.size from fun v h => by rw [← LL.out]; exact h)
              go_wp2_with fail
              refine (r16next_any s y false 1023 g wr (LS.out _ y1) SZ.out X.out).mono ?_
              rintro e w7 ⟨rfl, hx, hk⟩
              rw [hl, E1.out] at hx
              have Y1 := Lib.hid hx
              have K1 := Lib.hid (KK.out.trans hk (fun x e => .inl e))
              have C1 := Lib.hid (C.out.keeps hk (by omega))
              have O1 := Lib.hid (owns_keeps OW.out hk (fun x e q => by have := (OW.out.lt x e).1; omega))
              clear hx hk
              try rw [hl]
              try rw [E1.out]
              dsimp only
              go_wp2_with fail
              refine (r16next_any s _ _ 1023 g w7 (LS.out _ N1.2.2) SZ.out Y1.out).mono ?_
              rintro e w8 ⟨rfl, hx, hk⟩
              rw [hl, E2.out] at hx
              have Y2 := Lib.hid hx
              have K2 := Lib.hid (K1.out.trans hk (fun x e => .inl e))
              have C2 := Lib.hid (C1.out.keeps hk (by omega))
              have O2 := Lib.hid (owns_keeps O1.out hk (fun x e q => by have := (O1.out.lt x e).1; omega))
              clear hx hk
              try rw [hl]
              try rw [E2.out]
              dsimp only
              have NE := Lib.hid (show vr.ownBlock ≠ some c from fun e => by have := (OW.out.lt _ e).1; omega)
              have r2 : R.length ≤ 1024 := by omega
              have c0 := C2.out.cell 1
              simp at c0
              obtain ⟨i0', hi0, hz0, hz1, hz2⟩ := info_parts Try.infoU
              go_upto_region 16 with fail
              clear wv d1 z2
              go_region_law (first
                | (refine step_append_lies _ (by rfl) _ _ _ (by rfl) (c + 1) 44 i0' _ 3 24 Try.underlying45 hi0 hz0 hz1 hz2 rfl (by omega) vr R.length (R.map Ru.cs).flatten (by rfl) (O3.out.alloc _) ⟨w9.heap.size, 0, none⟩ 1 1 [.int .i64 (n2 l y).1, .int .i64 (core + (n1 l y).1), .int .i64 (n3 l y).1] (by rfl) (by rfl) (World.news_of_block (cs := #[.int .i64 (n2 l y).1, .int .i64 (core + (n1 l y).1), .int .i64 (n3 l y).1]) (t := 44) (fr := (0, 0)) (heap_alloc_new w9 _)) (by simp [Value.oneCell']) (by omega) (by unfold maxLen; omega) (by omega) (by simp; omega) (w9.heap.size + 1) (by simp) ?_; intro b2 cap2 w2 hown2 hgrow2 hor hlt2; have HO2 := Lib.hid hown2; have HG2 := Lib.hid hgrow2; have HOR := Lib.hid hor; have CC := Lib.hid (show Blk w2 47 c #[.int .i64 (A + i), vr] from (hgrow2.block c (Nat.lt_of_lt_of_le gl (wbox w9 _).size) (fun e => NE.out e.symm)).trans (C3.out.alloc _)); clear hown2 hgrow2 hor hlt2; have c4 : w2.cell? ⟨c, 1, none⟩ = some vr := CC.out.cell 1; have f4 : w2.frozen? ⟨c, 1, none⟩ = false := CC.out.free 1)
                | (go_simp; go_at_call 30; refine (r16next_any s _ _ 1099511627776 g w8.drew (LS.out _ N2.2.2) SZ.out (show Blk w8.drew 58 g _ from Y2.out)).mono ?_; rintro e w9 ⟨rfl, hx, hk⟩; dsimp only; rw [hl, E3.out] at hx; (try rw [hl]); (try rw [E3.out]); have Y3 := Lib.hid hx; have K3 := Lib.hid (K2.out.drew.trans hk (fun x e => .inl e)); have C3 := Lib.hid (Blk.keeps (show Blk w8.drew 47 c #[.int .i64 (A + i), vr] from C2.out) hk (by omega)); have O3 := Lib.hid (owns_keeps O2.out.drew hk (fun x e q => by have := (OW.out.lt x e).1; omega)); have c1 := C3.out.cell 1; have c1a := (C3.out.alloc (.cells #[.int .i64 (n2 l y).1, .int .i64 (core + (n1 l y).1), .int .i64 (n3 l y).1] 44)).cell 1; have gl := C3.out.lt; simp at c1 c1a; clear hx hk))
              all_goals
                clear c0 c1 c1a c4 f4
                have wl := K3.out.size
                have YG := Lib.hid (show Blk w2 58 g #[.string s, .int .i64 (n3 l y).2.1, .bool (n3 l y).2.2] from (HG2.out.block g (Nat.lt_of_lt_of_le Y3.out.lt (wbox w9 _).size) (fun e => by have := (OW.out.lt _ e.symm).1; omega)).trans (Y3.out.alloc _))
                have HN := Lib.hid (show b2 ≠ c by
                  rcases HOR.out with z | z
                  · intro e; subst e; exact NE.out z
                  · omega)
                have NW := Lib.hid (show Blk (w2.setCell ⟨c, 1, none⟩ (.slice (some ⟨b2, 0, none⟩) (R.length + 1) cap2)) 47 c #[.int .i64 (A + i), (.slice (some ⟨b2, 0, none⟩) (R.length + 1) cap2)] ∧ (w2.setCell ⟨c, 1, none⟩ (.slice (some ⟨b2, 0, none⟩) (R.length + 1) cap2)).ownsRow (c + 1) 44 3 (.slice (some ⟨b2, 0, none⟩) (R.length + 1) cap2) (R ++ [(⟨(n2 l y).1, core + (n1 l y).1, (n3 l y).1⟩ : Ru)]).length ((R ++ [(⟨(n2 l y).1, core + (n1 l y).1, (n3 l y).1⟩ : Ru)]).map Ru.cs).flatten ∧ Blk (w2.setCell ⟨c, 1, none⟩ (.slice (some ⟨b2, 0, none⟩) (R.length + 1) cap2)) 58 g #[.string s, .int .i64 (n3 l y).2.1, .bool (n3 l y).2.2] ∧ Keeps (fun k => k = g) wq (w2.setCell ⟨c, 1, none⟩ (.slice (some ⟨b2, 0, none⟩) (R.length + 1) cap2)) from by
                  refine ⟨heap_setCell_same w2 c 1 _ _ _ CC.out, ?_, YG.out.keeps ((Keeps.refl (fun k => k = c) w2).set (.inl rfl) _ _) (by omega), ((K3.out.alloc _).grown HG2.out (fun k hk => .inr (by have := (OW.out.lt k hk).1; omega))).set (.inr (by omega)) _ _⟩
                  rw [List.map_append, List.flatten_append, List.length_append]
                  exact owns_keeps (F := fun k => k = c) (by simpa [Ru.cs] using HO2.out) ((Keeps.refl (fun k => k = c) w2).set (.inl rfl) _ _) (fun x e => by simp [Value.ownBlock] at e; subst e; exact HN.out))
                clear HO2 HG2 HOR CC YG HN
                go_wp2
                go_roundw
                case rel => exact ⟨k + 1, _, by go_num, by omega, by rw [NU.out], NW.out.1, by rw [NU.out]; exact NW.out.2.1, by rw [NU.out]; exact NW.out.2.2.1, NW.out.2.2.2⟩
                case measure => simp [intOf]; omega
            | true =>
              have SE := Lib.hid (show slotU l q = itU l ⟨[], 0, p1, b1⟩ k by
                have := itU_bad l hbad (M.toNat - k)
                rw [SU2.out, ← this]
                congr 1
                omega)
              have z2 := X.out.cell 2
              rw [hbad] at z2
              simp at z2
              have rb := PB.2.1
              simp only [List.length_nil, Nat.zero_add] at rb
              rw [SE.out] at NX
              obtain ⟨R, hR⟩ : ∃ R, (itU l ⟨[], 0, p1, b1⟩ k).runs = R := ⟨_, rfl⟩
              rw [hR] at NX OW rb
              clear hR PB SS
              obtain ⟨ar, cr, rfl, hru, hfr⟩ := rowU_of_owns OW.out rfl
              have RU := Lib.hid hru
              have O8 := Lib.hid (O.out.keeps (Nat.lt_succ_self g) FV.out KK.out)
              have FR := Lib.hid (show ∀ ad : Addr, ar = some ad → ad.block < wr.heap.size ∧ u7.ownBlock ≠ some ad.block from fun ad e => ⟨rowU_lt hru e OW.out, fun q => by have h1 := hfr ad e; have h2 := (O.out.own.lt _ q).2; omega⟩)
              have FN := Lib.hid (show FarG g (vs ++ [(ar, R.length, cr)]) from fun u hu z ad e => by
                rcases List.mem_append.mp hu with q | q
                · exact FV.out u q z ad e
                · simp at q; subst q; have := hfr ad e; omega)
              have O4 := Lib.hid (O8.out.below (wbox wr (.cells #[.int .i64 (A + i), .slice ar R.length cr] 47)))
              have c0 := C.out.cell 0; have c1 := C.out.cell 1
              simp at c0 c1
              clear hru hfr
              have wl := KK.out.size
              have gw : g ≤ wq.heap.size := by omega
              have B8 := Lib.hid (show Below g w wr from KK.out.below B.out FG.out gw)
              have B4 := Lib.hid (show Below g w (wr.alloc (.cells #[.int .i64 (A + i), .slice ar R.length cr] 47)) from B8.out.trans ((wbox wr _).mono (by omega)))
              have lx := X.out.lt
              obtain ⟨i0', hi0, hz0, hz1, hz2⟩ := info_parts Try.infoK
              go_wp2_with (at_builtin; refine wpList_append_lies _ rfl _ _ _ rfl (g + 1) 47 i0' _ 2 32 Try.underlying22 hi0 hz0 hz1 hz2 rfl (by omega) u7 L.length (List.zipWith skc L vs).flatten rfl O4.out.own ⟨wr.heap.size, 0, none⟩ 1 1 [.int .i64 (A + i), .slice ar R.length cr] rfl rfl (World.news_of_block (cs := #[.int .i64 (A + i), .slice ar R.length cr]) (t := 47) (fr := (0, 0)) (heap_alloc_new wr _)) (by simp [Value.oneCell']) (by omega) (by unfold maxLen; omega) (by omega) (by simp; omega) (wr.heap.size + 1) (by simp) ?_; intro g2 cap2 w2 hown2 hgrow2 hor hlt2; have HO2 := Lib.hid hown2; have HG2 := Lib.hid hgrow2; have HOR := Lib.hid hor; clear hown2 hgrow2 hor hlt2)
              have NW := Lib.hid (show OutK (g + 1) w2 (.slice (some ⟨g2, 0, none⟩) (L.length + 1) cap2) (L ++ [⟨A + i, R⟩]) (vs ++ [(ar, R.length, cr)]) from
                O4.out.add HO2.out HG2.out (RU.out.below (wbox wr _)) (fun _ ad e => ⟨Nat.lt_of_lt_of_le (FR.out ad e).1 (wbox wr _).size, (FR.out ad e).2⟩) (HOR.out.imp id fun q => by rw [q]; simp))
              have XG := Lib.hid (show Blk w2 58 g #[.string s, .int .i64 (itU l ⟨[], 0, p1, b1⟩ k).p, .bool (itU l ⟨[], 0, p1, b1⟩ k).bad] from (HG2.out.block g (Nat.lt_of_lt_of_le lx (wbox wr _).size) (fun e => by have := (O4.out.own.lt _ e.symm).1; omega)).trans (X.out.alloc _))
              have BN := Lib.hid (show Below g w w2 from B4.out.grown HG2.out (by have := B4.out.size; omega) (fun q hq => by have := (O4.out.own.lt q hq).1; omega))
              clear O4 HO2 HG2 HOR c0 c1
              go_wp2
              go_roundw
              case rel => exact ⟨i + 1, _, by go_num, by omega, by rw [NX.out]; exact NW.out, FN.out, by rw [NX.out]; exact XG.out, BN.out⟩
              case measure => simp [intOf]; omega
          · have d1 : decide ((k : Int) < M) = false := by simp; omega
            have SE := Lib.hid (show slotU l q = itU l ⟨[], 0, p1, b1⟩ k by rw [SU2.out]; congr 1; omega)
            have rb := PB.2.1
            simp only [List.length_nil, Nat.zero_add] at rb
            rw [SE.out] at NX
            obtain ⟨R, hR⟩ : ∃ R, (itU l ⟨[], 0, p1, b1⟩ k).runs = R := ⟨_, rfl⟩
            rw [hR] at NX OW rb
            clear hR PB SS
            obtain ⟨ar, cr, rfl, hru, hfr⟩ := rowU_of_owns OW.out rfl
            have RU := Lib.hid hru
            have O8 := Lib.hid (O.out.keeps (Nat.lt_succ_self g) FV.out KK.out)
            have FR := Lib.hid (show ∀ ad : Addr, ar = some ad → ad.block < wr.heap.size ∧ u7.ownBlock ≠ some ad.block from fun ad e => ⟨rowU_lt hru e OW.out, fun q => by have h1 := hfr ad e; have h2 := (O.out.own.lt _ q).2; omega⟩)
            have FN := Lib.hid (show FarG g (vs ++ [(ar, R.length, cr)]) from fun u hu z ad e => by
              rcases List.mem_append.mp hu with q | q
              · exact FV.out u q z ad e
              · simp at q; subst q; have := hfr ad e; omega)
            have O4 := Lib.hid (O8.out.below (wbox wr (.cells #[.int .i64 (A + i), .slice ar R.length cr] 47)))
            have c0 := C.out.cell 0; have c1 := C.out.cell 1
            simp at c0 c1
            clear hru hfr
            have wl := KK.out.size
            have gw : g ≤ wq.heap.size := by omega
            have B8 := Lib.hid (show Below g w wr from KK.out.below B.out FG.out gw)
            have B4 := Lib.hid (show Below g w (wr.alloc (.cells #[.int .i64 (A + i), .slice ar R.length cr] 47)) from B8.out.trans ((wbox wr _).mono (by omega)))
            have lx := X.out.lt
            obtain ⟨i0', hi0, hz0, hz1, hz2⟩ := info_parts Try.infoK
            go_wp2_with (at_builtin; refine wpList_append_lies _ rfl _ _ _ rfl (g + 1) 47 i0' _ 2 32 Try.underlying22 hi0 hz0 hz1 hz2 rfl (by omega) u7 L.length (List.zipWith skc L vs).flatten rfl O4.out.own ⟨wr.heap.size, 0, none⟩ 1 1 [.int .i64 (A + i), .slice ar R.length cr] rfl rfl (World.news_of_block (cs := #[.int .i64 (A + i), .slice ar R.length cr]) (t := 47) (fr := (0, 0)) (heap_alloc_new wr _)) (by simp [Value.oneCell']) (by omega) (by unfold maxLen; omega) (by omega) (by simp; omega) (wr.heap.size + 1) (by simp) ?_; intro g2 cap2 w2 hown2 hgrow2 hor hlt2; have HO2 := Lib.hid hown2; have HG2 := Lib.hid hgrow2; have HOR := Lib.hid hor; clear hown2 hgrow2 hor hlt2)
            have NW := Lib.hid (show OutK (g + 1) w2 (.slice (some ⟨g2, 0, none⟩) (L.length + 1) cap2) (L ++ [⟨A + i, R⟩]) (vs ++ [(ar, R.length, cr)]) from
              O4.out.add HO2.out HG2.out (RU.out.below (wbox wr _)) (fun _ ad e => ⟨Nat.lt_of_lt_of_le (FR.out ad e).1 (wbox wr _).size, (FR.out ad e).2⟩) (HOR.out.imp id fun q => by rw [q]; simp))
            have XG := Lib.hid (show Blk w2 58 g #[.string s, .int .i64 (itU l ⟨[], 0, p1, b1⟩ k).p, .bool (itU l ⟨[], 0, p1, b1⟩ k).bad] from (HG2.out.block g (Nat.lt_of_lt_of_le lx (wbox wr _).size) (fun e => by have := (O4.out.own.lt _ e.symm).1; omega)).trans (X.out.alloc _))
            have BN := Lib.hid (show Below g w w2 from B4.out.grown HG2.out (by have := B4.out.size; omega) (fun q hq => by have := (O4.out.own.lt q hq).1; omega))
            clear O4 HO2 HG2 HOR c0 c1
            go_wp2
            go_roundw
            case rel => exact ⟨i + 1, _, by go_num, by omega, by rw [NX.out]; exact NW.out, FN.out, by rw [NX.out]; exact XG.out, BN.out⟩
            case measure => simp [intOf]; omega
      | true =>
        have RE := Lib.hid (show readM l = itK l A 0 ⟨[], p0, b0⟩ i by
          have := itK_bad l A hbad (N.toNat - i)
          rw [RD.out, ← this]
          congr 1
          omega)
        rw [hbad] at X
        have VN := Lib.hid (readM_no (l := l) (.inl (by rw [RE.out]; exact hbad)))
        have z2 := X.out.cell 2
        simp at z2
        go_wp2
        go_ret2
        exact .no VN.out (by rw [hg]; exact B.out)
    · have c1 : decide ((i : Int) < N) = false := by simp; omega
      have RE := Lib.hid (show readM l = itK l A 0 ⟨[], p0, b0⟩ i by rw [RD.out]; congr 1; omega)
      cases hbad : (itK l A 0 ⟨[], p0, b0⟩ i).bad with
      | true =>
        rw [hbad] at X
        have VN := Lib.hid (readM_no (l := l) (.inl (by rw [RE.out]; exact hbad)))
        have z2 := X.out.cell 2
        simp at z2
        go_wp2
        go_ret2
        exact .no VN.out (by rw [hg]; exact B.out)
      | false =>
        rw [hbad] at X
        have z2 := X.out.cell 2
        simp at z2
        obtain ⟨av, cv, rfl, hr⟩ := O.out.row
        have SM := Lib.hid (show SmallK (itK l A 0 ⟨[], p0, b0⟩ i).slots by rw [← RE.out]; exact readM_small l)
        have VY := Lib.hid (fun e => readM_yes (l := l) (by rw [RE.out]; exact hbad) (by rw [RE.out]; exact e))
        have VN := Lib.hid (fun e => readM_no (l := l) (.inr (by rw [RE.out]; exact e)))
        rw [RE.out] at VY
        have R := Lib.hid hr
        obtain ⟨L, hL⟩ : ∃ L, (itK l A 0 ⟨[], p0, b0⟩ i).slots = L := ⟨_, rfl⟩
        rw [hL] at SM VY VN R ⊢
        clear hr hL O PB SS
        go_wp2_with fail
        refine (r16bytes_any av L.length cv L wr R.out SM.out).mono ?_
        rintro e w6 ⟨rfl, hb⟩
        have R6 := Lib.hid (R.out.below hb)
        have B6 := Lib.hid (show Below g w w6 from B.out.trans (hb.mono (by have := B.out.size; omega)))
        clear hb
        have SB := Lib.hid (show s = BS l by rw [← hl]; apply ByteArray.ext; simp [BS])
        by_cases e : bytesK L = l
        · have V := Lib.hid (VY.out e)
          go_wp2
          · rename_i hh
            exfalso
            rw [SB.out, BS_list] at hh
            simp at hh
          go_ret2
          exact .yes (by rw [hl]; exact V.out) R6.out (by rw [hg]; exact B6.out)
        · have V := Lib.hid (VN.out e)
          go_wp2
          · go_ret2
            exact .no (by rw [hl]; exact V.out) (by rw [hg]; exact B6.out)
          · rename_i hh
            exfalso
            rw [SB.out, BS_list] at hh
            simp [BS_list] at hh
            exact e hh
end Go.Proofs.Ytndhpihgeacdfaa
