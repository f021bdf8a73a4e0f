/-
  The law's few slots: few (regattalaw16): contract.
-/
import Derived.Test.YtndhpihgeacdfaaSo1
namespace Go.Proofs.Ytndhpihgeacdfaa
open Go.RowKit

def cutS (s : Sk) : Sk := ⟨s.tm, s.runs.take 6⟩
def fewV (l : List Sk) : List Sk := l.map cutS
set_option maxRecDepth 20000 in
set_option maxHeartbeats 4000000 in
theorem few16_any (a : Option Addr) (len cap : Nat) (l : List Sk) (w : World) (h : RowK w a len cap l) :
    Calls Try.prog 10 #[.slice a len cap] w fun e w' => (∃ b n c, e = .returned (.slice b n c) ∧ RowK w' b n c (fewV (l.take 6))) ∧ Below w.heap.size w w' := by
  have H := Lib.hid h
  have LN := Lib.hid h.len
  have ⟨k1, k2⟩ := h.cap_le
  clear h
  go_enter Try.func10, Try.ntmps10
  go_wp2
  go_loopw [3, 4] (fun v u wr => ∃ (i : Nat) (vs : List (Option Addr × Nat × Nat)), u = .int .i64 i ∧ i ≤ len ∧ i ≤ 6 ∧ OutK w.heap.size wr v (fewV (l.take i)) vs ∧ Below w.heap.size w wr) (fun _ u _ => len - (intOf u).toNat)
  case atStart => exact ⟨0, [], rfl, by omega, by omega, by simpa [fewV] using OutK.nil _ _, Below.refl _ _⟩
  case round =>
    obtain ⟨i, vs, rfl, i1, i6, ho, hb⟩ := hrel
    have O := Lib.hid ho
    have B := Lib.hid hb
    clear ho hb
    by_cases go : i < len
    · have b1 : decide ((i : Int) < (len : Int)) = true := by simp; omega
      have b1' : decide (i < len) = true := by simp; omega
      have i3 : (i : Int) < (len : Int) := by omega
      have i0 : 0 ≤ (i : Int) := by omega
      by_cases g6 : i < 6
      · have b2 : decide ((i : Int) < 6) = true := by simp; omega
        have b2' : decide (i < 6) = true := by simp; omega
        obtain ⟨s, hs, hts⟩ := get_of (l := l) (i := i) (by rw [LN.out]; exact go)
        have TS := Lib.hid (show fewV (l.take (i + 1)) = fewV (l.take i) ++ [⟨s.tm, s.runs.take 6⟩] by rw [hts]; simp [fewV, cutS])
        obtain ⟨ba, oa, ao, lo, co, rfl, x0, x1, hu⟩ := H.out.at hs
        have HU := Lib.hid hu
        have LU := Lib.hid hu.len
        have ⟨z1, z2⟩ := hu.cap_le
        have FR := Lib.hid (show 0 < lo → ∀ ad : Addr, ao = some ad → ad.block < w.heap.size from fun z ad e => by
          obtain ⟨r, hr, _⟩ := get_of (l := s.runs) (i := 0) (by rw [hu.len]; exact z)
          obtain ⟨b, o, ea, hat⟩ := hu.at hr
          rw [e] at ea
          cases ea
          exact hat.lt)
        replace x0 := cell_on B.out x0
        replace x1 := cell_on B.out x1
        obtain ⟨rs, hrs⟩ : ∃ rs, s.runs = rs := ⟨_, rfl⟩
        obtain ⟨tm, htm⟩ : ∃ tm, s.tm = tm := ⟨_, rfl⟩
        rw [hrs] at HU LU TS
        rw [htm] at x0 TS
        have LL := Lib.hid (show (fewV (l.take i)).length = i by unfold fewV; rw [List.length_map, List.length_take, LN.out]; omega)
        obtain ⟨L, hL⟩ : ∃ L, fewV (l.take i) = L := ⟨_, rfl⟩
        rw [hL] at TS O LL
        clear hs hts hu hrs htm hL
        have X2 := Lib.hid (Blk.new wr 47 #[.int .i64 tm, .slice ao lo co])
        have y1 := X2.out.cell 1
        simp at y1
        have wb := Lib.hid (wbox wr (.cells #[.int .i64 tm, .slice ao lo co] 47))
        by_cases g : 6 < lo
        · have d1 : decide ((6 : Int) < (lo : Int)) = true := by simp; omega
          have d1' : decide (6 < lo) = true := by simp; omega
          obtain ⟨r, hr, _⟩ := get_of (l := rs) (i := 0) (by rw [LU.out]; omega)
          obtain ⟨bu, ou, rfl, _⟩ := HU.out.at hr
          clear hr
          go_upto_region 8 with fail
          clear b1 b1' b2 b2' d1 d1' x0 x1 y1 X2 wb
          have XX := Blk.new wr 47 #[.int .i64 tm, .slice (some ⟨bu, ou, none⟩) 6 co]
          have BX := Lib.hid (wbox wr (.cells #[.int .i64 tm, .slice (some ⟨bu, ou, none⟩) 6 co] 47))
          obtain ⟨W3, hW3⟩ : ∃ W3, wr.alloc (.cells #[.int .i64 tm, .slice (some ⟨bu, ou, none⟩) 6 co] 47) = W3 := ⟨_, rfl⟩
          rw [hW3] at XX BX ⊢
          clear hW3
          have X := Lib.hid XX
          have O4 := Lib.hid ((O.out.below BX.out).below (wbox W3 (.cells #[.int .i64 tm, .slice (some ⟨bu, ou, none⟩) 6 co] 47)))
          have c0 := X.out.cell 0; have c1 := X.out.cell 1
          simp at c0 c1
          have B4 := Lib.hid (show Below w.heap.size w (W3.alloc (.cells #[.int .i64 tm, .slice (some ⟨bu, ou, none⟩) 6 co] 47)) from below_next (below_next B.out BX.out) (wbox W3 _))
          obtain ⟨i0', hi0, hz0, hz1, hz2⟩ := info_parts Try.infoK
          have ll := LL.out
          have wl := B.out.size
          have wl2 := BX.out.size
          go_wp2_with (at_builtin; refine wpList_append_lies _ rfl _ _ _ rfl w.heap.size 47 i0' _ 2 32 Try.underlying22 hi0 hz0 hz1 hz2 rfl (by omega) u3 L.length (List.zipWith skc L vs).flatten rfl O4.out.own ⟨W3.heap.size, 0, none⟩ 1 1 [.int .i64 tm, .slice (some ⟨bu, ou, none⟩) 6 co] rfl rfl (World.news_of_block (cs := #[.int .i64 tm, .slice (some ⟨bu, ou, none⟩) 6 co]) (t := 47) (fr := (0, 0)) (heap_alloc_new W3 _)) (by simp [Value.oneCell']) (by omega) (by unfold maxLen; omega) (by omega) (by simp; omega) (W3.heap.size + 1) (by simp) ?_; intro g2 cap2 w2 hown2 hgrow2 hor hlt2; have HO2 := Lib.hid hown2; have HG2 := Lib.hid hgrow2; have HOR := Lib.hid hor; clear hown2 hgrow2 hor hlt2)
          have NW := Lib.hid (show OutK w.heap.size w2 (.slice (some ⟨g2, 0, none⟩) (L.length + 1) cap2) (fewV (l.take (i + 1))) (vs ++ [(some ⟨bu, ou, none⟩, 6, co)]) by
            rw [TS.out]
            refine O4.out.add HO2.out HG2.out (show RowU _ (some ⟨bu, ou, none⟩) 6 co (rs.take 6) from (HU.out.take (by omega)).below B4.out) (fun z ad e => ?_) (HOR.out.imp id fun q => by rw [q]; simp)
            have h1 := FR.out (by omega) ad e
            exact ⟨Nat.lt_of_lt_of_le h1 B4.out.size, fun q => by have h2 := (O4.out.own.lt _ q).1; omega⟩)
          have BN := Lib.hid (show Below w.heap.size w w2 from B4.out.grown HG2.out B4.out.size (fun q hq => (O4.out.own.lt q hq).1))
          clear O4 HO2 HG2 HOR c0 c1
          go_wp2
          go_roundw
          case rel => exact ⟨i + 1, _, by go_num, by omega, by omega, by have q := NW.out; rw [LL.out] at q; exact q, BN.out⟩
          case measure => simp [intOf]; omega
        · have d1 : decide ((6 : Int) < (lo : Int)) = false := by simp; omega
          have d1' : decide (6 < lo) = false := by simp; omega
          go_upto_region 8 with fail
          clear b1 b1' b2 b2' d1 d1' x0 x1 y1
          have XX := X2.out
          have BX := wb
          obtain ⟨W3, hW3⟩ : ∃ W3, wr.alloc (.cells #[.int .i64 tm, .slice ao lo co] 47) = W3 := ⟨_, rfl⟩
          rw [hW3] at XX BX ⊢
          clear hW3
          have X := Lib.hid XX
          have O4 := Lib.hid ((O.out.below BX.out).below (wbox W3 (.cells #[.int .i64 tm, .slice ao lo co] 47)))
          have c0 := X.out.cell 0; have c1 := X.out.cell 1
          simp at c0 c1
          have B4 := Lib.hid (show Below w.heap.size w (W3.alloc (.cells #[.int .i64 tm, .slice ao lo co] 47)) from below_next (below_next B.out BX.out) (wbox W3 _))
          obtain ⟨i0', hi0, hz0, hz1, hz2⟩ := info_parts Try.infoK
          have ll := LL.out
          have wl := B.out.size
          have wl2 := BX.out.size
          go_wp2_with (at_builtin; refine wpList_append_lies _ rfl _ _ _ rfl w.heap.size 47 i0' _ 2 32 Try.underlying22 hi0 hz0 hz1 hz2 rfl (by omega) u3 L.length (List.zipWith skc L vs).flatten rfl O4.out.own ⟨W3.heap.size, 0, none⟩ 1 1 [.int .i64 tm, .slice ao lo co] rfl rfl (World.news_of_block (cs := #[.int .i64 tm, .slice ao lo co]) (t := 47) (fr := (0, 0)) (heap_alloc_new W3 _)) (by simp [Value.oneCell']) (by omega) (by unfold maxLen; omega) (by omega) (by simp; omega) (W3.heap.size + 1) (by simp) ?_; intro g2 cap2 w2 hown2 hgrow2 hor hlt2; have HO2 := Lib.hid hown2; have HG2 := Lib.hid hgrow2; have HOR := Lib.hid hor; clear hown2 hgrow2 hor hlt2)
          have NW := Lib.hid (show OutK w.heap.size w2 (.slice (some ⟨g2, 0, none⟩) (L.length + 1) cap2) (fewV (l.take (i + 1))) (vs ++ [(ao, lo, co)]) by
            rw [TS.out]
            refine O4.out.add HO2.out HG2.out (show RowU _ ao lo co (rs.take 6) from by rw [List.take_of_length_le (by rw [LU.out]; omega)]; exact HU.out.below B4.out) (fun z ad e => ?_) (HOR.out.imp id fun q => by rw [q]; simp)
            have h1 := FR.out (by omega) ad e
            exact ⟨Nat.lt_of_lt_of_le h1 B4.out.size, fun q => by have h2 := (O4.out.own.lt _ q).1; omega⟩)
          have BN := Lib.hid (show Below w.heap.size w w2 from B4.out.grown HG2.out B4.out.size (fun q hq => (O4.out.own.lt q hq).1))
          clear O4 HO2 HG2 HOR c0 c1
          go_wp2
          go_roundw
          case rel => exact ⟨i + 1, _, by go_num, by omega, by omega, by have q := NW.out; rw [LL.out] at q; exact q, BN.out⟩
          case measure => simp [intOf]; omega
      · have b2 : decide ((i : Int) < 6) = false := by simp; omega
        have b2' : decide (i < 6) = false := by simp; omega
        obtain ⟨av, cv, rfl, hr⟩ := O.out.row
        have e : fewV (l.take 6) = fewV (l.take i) := by rw [show i = 6 by omega]
        have R := Lib.hid hr
        have E := Lib.hid e
        clear e hr
        go_wp2
        go_ret
        exact ⟨⟨_, _, _, rfl, by rw [E.out]; exact R.out⟩, B.out⟩
    · have b1 : decide ((i : Int) < (len : Int)) = false := by simp; omega
      have b1' : decide (i < len) = false := by simp; omega
      obtain ⟨av, cv, rfl, hr⟩ := O.out.row
      have e : fewV (l.take 6) = fewV (l.take i) := by
        have hl := LN.out
        rw [List.take_of_length_le (show l.length ≤ 6 by omega), List.take_of_length_le (by omega)]
      have R := Lib.hid hr
      have E := Lib.hid e
      clear e hr
      go_wp2
      go_ret
      exact ⟨⟨_, _, _, rfl, by rw [E.out]; exact R.out⟩, B.out⟩
end Go.Proofs.Ytndhpihgeacdfaa
