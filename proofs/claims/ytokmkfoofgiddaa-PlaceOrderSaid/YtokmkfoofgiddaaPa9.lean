/-
  The document's Assign (regattaref15): contract.
-/
import Derived.Test.YtokmkfoofgiddaaPa8
namespace Go.Proofs.Ytokmkfoofgiddaa
open Go.RowKit

set_option maxRecDepth 20000 in
set_option maxHeartbeats 4000000 in
theorem r15assign_any (a : Option Addr) (len cap : Nat) (l : List Rn) (m : Int) (w : World) (h : RowR w a len cap l) :
    Calls Try.prog 20 #[.slice a len cap, .int .i64 m] w (AsgG w l m) := by
  have H := Lib.hid h
  have LN := Lib.hid h.len
  have ⟨c1, c2⟩ := h.cap_le
  clear h
  go_enter Try.func20, Try.ntmps20
  go_wp2_with fail
  refine (r15check_any a len cap l m w H.out).mono ?_
  rintro e w1 ⟨rfl, hb1⟩
  have B1 := Lib.hid hb1
  have H1 := Lib.hid (H.out.below hb1)
  clear hb1
  cases hmb : mayB l m with
  | false =>
    have VL := Lib.hid (show asgL l m = [] by unfold asgL; rw [hmb]; rfl)
    have VE := Lib.hid (show asgE l m = 1 by unfold asgE; rw [hmb]; rfl)
    clear hmb
    go_wp2
    go_ret2
    exact ⟨none, 0, 0, by rw [VE.out]; rfl, by rw [VL.out]; exact Row.nil, B1.out⟩
  | true =>
    have MY := Lib.hid (mayB_true.mp hmb)
    have m1 := (mayB_true.mp hmb).m1
    have m2 := (mayB_true.mp hmb).m2
    have lm := (mayB_true.mp hmb).few
    rw [LN.out] at lm
    clear hmb
    obtain ⟨n, rfl⟩ : ∃ n : Nat, m = (n : Int) := ⟨m.toNat, by omega⟩
    have V := Lib.hid (asg_yes MY.out)
    have GE := Lib.hid (outK_ge MY.out len)
    have l1024 : len ≤ 1024 := by omega
    go_wp2
    go_loopw [7, 8, 9] (fun vo vt u wr => ∃ i : Nat, u = .int .i64 i ∧ i ≤ len ∧ OT w1 wr vo ((l.take i).map Rn.pin) vt (pinsR (l.take i))) (fun _ _ u _ => len - (intOf u).toNat)
    case atStart => exact ⟨0, rfl, by omega, OT.start _⟩
    case round =>
      obtain ⟨i, rfl, i1, ho⟩ := hrel
      have O := Lib.hid ho
      clear ho
      by_cases go : i < len
      · have b1 : decide ((i : Int) < (len : Int)) = true := by simp; omega
        have b1' : decide (i < len) = true := by simp; omega
        obtain ⟨r, hr, -⟩ := getR (l := l) (i := i) (by rw [LN.out]; exact go)
        have MT := Lib.hid (map_take hr)
        have PT := Lib.hid (pins_take hr)
        have PL := Lib.hid (pins_le l i)
        have ML := Lib.hid (show ((l.take i).map Rn.pin).length ≤ i by rw [List.length_map, List.length_take]; omega)
        obtain ⟨ba, oa, rfl, hat⟩ := H1.out.at hr
        have HX := Lib.hid (show ∀ W, Below w1.heap.size w1 W → W.cell? ⟨ba, oa + i * 3 + 1, none⟩ = some (.int .i64 r.pin) from fun W hb => cell_on hb hat.c1)
        have x1 := HX.out _ O.out.bel
        obtain ⟨pin, hpin⟩ : ∃ p, r.pin = p := ⟨_, rfl⟩
        rw [hpin] at x1 HX MT PT
        have i3 : (i : Int) < (len : Int) := by omega
        have i0 : 0 ≤ (i : Int) := by omega
        obtain ⟨outs, hos⟩ : ∃ o, (l.take i).map Rn.pin = o := ⟨_, rfl⟩
        obtain ⟨tks, htk⟩ : ∃ o, pinsR (l.take i) = o := ⟨_, rfl⟩
        rw [hos] at MT ML O
        rw [htk] at PT PL O
        clear hr hat hpin hos htk
        by_cases p1 : 0 ≤ pin
        · have b2 : decide (0 ≤ pin) = true := by simp; omega
          have PN := Lib.hid (show pinsR (l.take (i + 1)) = tks ++ [pin] by rw [PT.out, if_pos p1])
          go_wp2_with (first
            | (at_builtin; refine app_int rfl _ _ rfl w1.heap.size u7 outs rfl (O.out.o.alloc _) wr.heap.size pin rfl (heap_alloc_new wr _) (by have := O.out.bel.size; simp; omega) (by have := ML.out; omega) ?_; intro v2 w2 hown2 hgrow2 hlies2; have O2 := Lib.hid (O.out.appO hown2 hgrow2 hlies2); clear hown2 hgrow2 hlies2; have y1 := HX.out _ O2.out.bel)
            | (at_builtin; refine app_int rfl _ _ rfl w1.heap.size u8 tks rfl (O2.out.t.alloc _) w2.heap.size pin rfl (heap_alloc_new w2 _) (by have := O2.out.bel.size; simp; omega) (by have := PL.out; omega) ?_; intro v3 w3 hown2 hgrow2 hlies2; have O3 := Lib.hid (O2.out.appT hown2 hgrow2 hlies2); clear hown2 hgrow2 hlies2))
          go_roundw
          case rel => exact ⟨i + 1, by go_num, by omega, by rw [MT.out, PN.out]; exact O3.out⟩
          case measure => simp [intOf]; omega
        · have b2 : decide (0 ≤ pin) = false := by simp; omega
          have PN := Lib.hid (show pinsR (l.take (i + 1)) = tks by rw [PT.out, if_neg p1, List.append_nil])
          go_wp2_with (at_builtin; refine app_int rfl _ _ rfl w1.heap.size u7 outs rfl (O.out.o.alloc _) wr.heap.size pin rfl (heap_alloc_new wr _) (by have := O.out.bel.size; simp; omega) (by have := ML.out; omega) ?_; intro v2 w2 hown2 hgrow2 hlies2; have O2 := Lib.hid (O.out.appO hown2 hgrow2 hlies2); clear hown2 hgrow2 hlies2; have y1 := HX.out _ O2.out.bel)
          go_roundw
          case rel => exact ⟨i + 1, by go_num, by omega, by rw [MT.out, PN.out]; exact O2.out⟩
          case measure => simp [intOf]; omega
      · have b1 : decide ((i : Int) < (len : Int)) = false := by simp; omega
        have b1' : decide (i < len) = false := by simp; omega
        have e1 : l.take i = l := List.take_of_length_le (by rw [LN.out]; omega)
        rw [e1] at O
        have O := Lib.hid (show OT w1 wr u7 (outK l 0) u8 (tkK l 0) by rw [outK_zero, tkK_zero]; exact O.out)
        clear e1
        obtain ⟨ao, co, hvo, _, _⟩ := row_of_owns O.out.o
        rw [outK_len, LN.out] at hvo
        subst hvo
        go_wp2
        clear b1 b1' i1 go
        go_loopw [8, 10] (fun vt u wx => ∃ j : Nat, u = .int .i64 j ∧ j ≤ len ∧ OT w1 wx (.slice ao len co) (outK l j) vt (tkK l j)) (fun _ u _ => len - (intOf u).toNat)
        case atStart => exact ⟨0, rfl, by omega, O.out⟩
        case round =>
          obtain ⟨j, rfl, j1, ho⟩ := hrel
          have O := Lib.hid ho
          clear ho
          by_cases go : j < len
          · have b1 : decide ((j : Int) < (len : Int)) = true := by simp; omega
            have b1' : decide (j < len) = true := by simp; omega
            obtain ⟨r, hr, -⟩ := getR (l := l) (i := j) (by rw [LN.out]; exact go)
            have KY := Lib.hid (fun c => outK_yes hr c)
            have KN := Lib.hid (fun c => outK_no hr c)
            have TL := Lib.hid (show (tkK l j).length ≤ 2048 by have := tkK_len l j; rw [LN.out] at this; omega)
            obtain ⟨ba, oa, rfl, hat⟩ := H1.out.at hr
            obtain ⟨g, hg, y0, yf, hcap⟩ := own_some O.out.o (outK_at hr)
            cases hg
            rw [outK_len, LN.out] at hcap
            have hz : wr.cell? ⟨ba, oa + j * 3 + 2, none⟩ = some (.int .i64 r.last) := cell_on O.out.bel hat.c2
            have i3 : (j : Int) < (len : Int) := by omega
            have i0 : 0 ≤ (j : Int) := by omega
            have HG := Lib.hid (show w1.heap.size ≤ g from (O.out.o.lt g rfl).1)
            have HA := Lib.hid (show ba ≠ g by have h1 := hat.lt; have h2 := HG.out; omega)
            obtain ⟨id, pin, z⟩ := r
            replace hz : wr.cell? ⟨ba, oa + j * 3 + 2, none⟩ = some (.int .i64 z) := hz
            replace y0 : wr.cell? ⟨g, j, none⟩ = some (.int .i64 pin) := y0
            have LO := Lib.hid (show (outK l j).length = len by rw [outK_len, LN.out])
            clear hr hat
            obtain ⟨outs, hos⟩ : ∃ o, outK l j = o := ⟨_, rfl⟩
            obtain ⟨tks, htk⟩ : ∃ o, tkK l j = o := ⟨_, rfl⟩
            rw [hos] at KY KN O LO
            rw [htk] at KY KN TL O
            clear hos htk
            go_wp2_with fail
            refine (r15in_own O.out.t z).mono ?_
            rintro e wz ⟨rfl, rfl⟩
            by_cases kc : pin < 0 ∧ 0 ≤ z ∧ z ∉ tks
            · have b2 : decide (pin < 0) = true := by simp; omega
              have b3 : decide (0 ≤ z) = true := by simp; omega
              have b4 : inB tks z = false := by unfold inB; simp [kc.2.2]
              have NX := Lib.hid (KY.out kc)
              have O2 := Lib.hid (O.out.setO LO.out j z)
              obtain ⟨g', eg, y1, yf1, _⟩ := own_some O2.out.o (i := j) (x := z) (by rw [List.getElem?_set_self (by rw [LO.out]; exact go)])
              cases eg
              clear kc
              go_wp2_with (at_builtin; refine app_int rfl _ _ rfl w1.heap.size u8 tks rfl (O2.out.t.alloc _) wr.heap.size z rfl (alloc_set_new _ _ _ _) (Nat.le_trans O2.out.bel.size (wbox _ _).size) (by have := TL.out; omega) ?_; intro v3 w3 hown2 hgrow2 hlies2; have O3 := Lib.hid (O2.out.appT hown2 hgrow2 hlies2); clear hown2 hgrow2 hlies2)
              go_roundw
              case rel => exact ⟨j + 1, by go_num, by omega, by rw [NX.out.1, NX.out.2]; exact O3.out⟩
              case measure => simp [intOf]; omega
            · have NX := Lib.hid (KN.out kc)
              by_cases k1 : pin < 0
              · have b2 : decide (pin < 0) = true := by simp; omega
                by_cases k2 : 0 ≤ z
                · have b3 : decide (0 ≤ z) = true := by simp; omega
                  have b4 : inB tks z = true := by
                    unfold inB
                    refine Classical.byContradiction fun q => kc ⟨k1, k2, by simpa using q⟩
                  clear kc
                  go_wp2
                  go_roundw
                  case rel => exact ⟨j + 1, by go_num, by omega, by rw [NX.out.1, NX.out.2]; exact O.out⟩
                  case measure => simp [intOf]; omega
                · have b3 : decide (0 ≤ z) = false := by simp; omega
                  clear kc
                  go_wp2
                  go_roundw
                  case rel => exact ⟨j + 1, by go_num, by omega, by rw [NX.out.1, NX.out.2]; exact O.out⟩
                  case measure => simp [intOf]; omega
              · have b2 : decide (pin < 0) = false := by simp; omega
                clear kc
                go_wp2
                go_roundw
                case rel => exact ⟨j + 1, by go_num, by omega, by rw [NX.out.1, NX.out.2]; exact O.out⟩
                case measure => simp [intOf]; omega
          · have b1 : decide ((j : Int) < (len : Int)) = false := by simp; omega
            have b1' : decide (j < len) = false := by simp; omega
            have je : j = l.length := by rw [LN.out]; omega
            have OK := Lib.hid (show (outK l l.length).length = len by rw [outK_len, LN.out])
            have GX := Lib.hid (show ∀ c ∈ outK l l.length, -1 ≤ c by rw [LN.out]; exact GE.out)
            have ASG := Lib.hid (show outF n (outK l l.length) (tkK l l.length) len = assignR l n by rw [← LN.out]; exact asg_is)
            have TL := Lib.hid (show (tkK l l.length).length ≤ 2048 by have := tkK_len l l.length; rw [LN.out] at this; rw [LN.out]; omega)
            rw [je] at O
            obtain ⟨os, hos⟩ : ∃ o, outK l l.length = o := ⟨_, rfl⟩
            obtain ⟨tk, htk⟩ : ∃ o, tkK l l.length = o := ⟨_, rfl⟩
            rw [hos] at O OK GX ASG
            rw [htk] at O ASG TL
            clear hos htk je
            go_wp2
            clear b1 b1' j1 go
            go_loopw [8, 12] (fun vt u wx => ∃ (k : Nat) (tv : List Int), u = .int .i64 k ∧ k ≤ len ∧ tv.length ≤ 2048 + k ∧ SameT tv (tkF n os tk k) ∧ OT w1 wx (.slice ao len co) (outF n os tk k) vt tv) (fun _ u _ => len - (intOf u).toNat)
            case atStart => exact ⟨0, tk, rfl, by omega, by have := TL.out; omega, by rw [tkF_zero]; exact SameT.refl _, by rw [outF_zero]; exact O.out⟩
            case round =>
              obtain ⟨k, tv, rfl, k1, ktv, hsm, ho⟩ := hrel
              have O := Lib.hid ho
              have SM := Lib.hid hsm
              clear ho hsm
              by_cases go : k < len
              · have b1 : decide ((k : Int) < (len : Int)) = true := by simp; omega
                have b1' : decide (k < len) = true := by simp; omega
                obtain ⟨o, hoo, -⟩ := getI (cs := os) (i := k) (by rw [OK.out]; exact go)
                have FY := Lib.hid (fun c => outF_yes (m := n) (tk := tk) hoo c)
                have FN := Lib.hid (fun c => outF_no (m := n) (tk := tk) hoo c)
                have FA := Lib.hid (outF_at (m := n) (tk := tk) hoo)
                have O1 := Lib.hid (GX.out o (List.mem_of_getElem? hoo))
                have LF := Lib.hid (show (outF n os tk k).length = len by rw [outF_len, OK.out])
                clear hoo
                have FS := Lib.hid (free_same SM.out n 0 (by omega))
                obtain ⟨out0, hout⟩ : ∃ q, outF n os tk k = q := ⟨_, rfl⟩
                obtain ⟨tk0, htk⟩ : ∃ q, tkF n os tk k = q := ⟨_, rfl⟩
                rw [hout] at O FY FN FA LF
                rw [htk] at SM FY FN FS
                clear hout htk
                go_wp2
                clear b1 b1'
                go_loopw [8, 13] (fun vt u wx => ∃ (c : Nat) (out' tv' : List Int), u = .int .i64 c ∧ c ≤ n ∧ Seek n out0 tv k o c out' tv' ∧ OT w1 wx (.slice ao len co) out' vt tv') (fun _ u _ => n - (intOf u).toNat)
                case atStart => exact ⟨0, _, _, rfl, by omega, .inl ⟨rfl, rfl, fun d h => by omega⟩, O.out⟩
                case round =>
                  obtain ⟨c, out', tv', rfl, cn, hsk, ho⟩ := hrel
                  clear O
                  have O := Lib.hid ho
                  have i0 : 0 ≤ (k : Int) := by omega
                  have i3 : (k : Int) < (len : Int) := by omega
                  rcases hsk with ⟨rfl, rfl, hall⟩ | ⟨f, rfl, rfl, hf, o0⟩
                  · have AL := Lib.hid hall
                    obtain ⟨g, eg, y0, yf, hcap⟩ := own_some ho.o FA.out
                    cases eg
                    rw [LF.out] at hcap
                    clear hall ho
                    by_cases o0 : o < 0
                    · have b2 : decide (o < 0) = true := by simp; omega
                      by_cases cm : c < n
                      · have b3 : decide ((c : Int) < (n : Int)) = true := by simp; omega
                        have b3' : decide (c < n) = true := by simp; omega
                        go_wp2_with fail
                        refine (r15in_own O.out.t c).mono ?_
                        rintro e wz ⟨rfl, rfl⟩
                        by_cases ci : (c : Int) ∈ tv'
                        · have b4 : inB tv' c = true := by unfold inB; simp [ci]
                          have SN := Lib.hid (show Seek n out' tv' k o (c + 1) out' tv' from .inl ⟨rfl, rfl, fun d hd => by
                            by_cases q : d = c
                            · rw [q]; exact ci
                            · exact AL.out d (by omega)⟩)
                          clear ci
                          go_wp2
                          go_roundw
                          case rel => exact ⟨c + 1, _, _, by go_num, by omega, SN.out, O.out⟩
                          case measure => simp [intOf]; omega
                        · have b4 : inB tv' c = false := by unfold inB; simp [ci]
                          have SN := Lib.hid (show Seek n out' tv' k o (c + 1) (out'.set k c) (tv' ++ [(c : Int)]) from .inr ⟨c, rfl, rfl, free_here cm AL.out ci, o0⟩)
                          clear ci
                          have O2 := Lib.hid (O.out.setO LF.out k c)
                          go_wp2_with (at_builtin; refine app_int rfl _ _ rfl w1.heap.size u8 tv' rfl (O2.out.t.alloc _) wr.heap.size c rfl (alloc_set_new _ _ _ _) (Nat.le_trans O2.out.bel.size (wbox _ _).size) (by omega) ?_; intro v3 w3 hown2 hgrow2 hlies2; have O3 := Lib.hid (O2.out.appT hown2 hgrow2 hlies2); clear hown2 hgrow2 hlies2)
                          go_roundw
                          case rel => exact ⟨c + 1, _, _, by go_num, by omega, SN.out, O3.out⟩
                          case measure => simp [intOf]; omega
                      · have b3 : decide ((c : Int) < (n : Int)) = false := by simp; omega
                        have b3' : decide (c < n) = false := by simp; omega
                        have F1 := Lib.hid (show freeR tk0 n 0 = -1 by rw [← FS.out]; exact free_none (fun d hd => AL.out d (by omega)))
                        have NX := Lib.hid (FY.out o0)
                        have NO := Lib.hid (show outF n os tk (k + 1) = out' by
                          rw [NX.out.1, F1.out]
                          have h1 := O1.out
                          exact set_same (by rw [FA.out, show o = -1 by omega]))
                        have NT := Lib.hid (show SameT tv' (tkF n os tk (k + 1)) by rw [NX.out.2, F1.out]; exact SM.out.neg (by omega))
                        go_wp2
                        go_roundw
                        case rel => exact ⟨k + 1, tv', by go_num, by omega, by omega, NT.out, by rw [NO.out]; exact O.out⟩
                        case measure => simp [intOf]; omega
                    · have b2 : decide (o < 0) = false := by simp; omega
                      have NX := Lib.hid (FN.out (by omega))
                      by_cases cm : c < n
                      · have b3 : decide ((c : Int) < (n : Int)) = true := by simp; omega
                        have b3' : decide (c < n) = true := by simp; omega
                        go_wp2
                        go_roundw
                        case rel => exact ⟨k + 1, tv', by go_num, by omega, by omega, by rw [NX.out.2]; exact SM.out, by rw [NX.out.1]; exact O.out⟩
                        case measure => simp [intOf]; omega
                      · have b3 : decide ((c : Int) < (n : Int)) = false := by simp; omega
                        have b3' : decide (c < n) = false := by simp; omega
                        go_wp2
                        go_roundw
                        case rel => exact ⟨k + 1, tv', by go_num, by omega, by omega, by rw [NX.out.2]; exact SM.out, by rw [NX.out.1]; exact O.out⟩
                        case measure => simp [intOf]; omega
                  · have HF := Lib.hid hf
                    obtain ⟨g, eg, y0, yf, hcap⟩ := own_some ho.o (i := k) (x := (f : Int)) (by rw [List.getElem?_set_self (by rw [LF.out]; exact go)])
                    cases eg
                    rw [List.length_set, LF.out] at hcap
                    clear ho hf
                    have b2 : decide ((f : Int) < 0) = false := decide_eq_false (by omega)
                    have NX := Lib.hid (FY.out o0)
                    have NO := Lib.hid (show outF n os tk (k + 1) = out0.set k f by rw [NX.out.1, ← FS.out, HF.out])
                    have NT := Lib.hid (show SameT (tv ++ [(f : Int)]) (tkF n os tk (k + 1)) by rw [NX.out.2, ← FS.out, HF.out]; exact SM.out.snoc _)
                    have LT := Lib.hid (show (tv ++ [(f : Int)]).length ≤ 2048 + (k + 1) by rw [List.length_append]; simp; omega)
                    by_cases cm : c < n
                    · have b3 : decide ((c : Int) < (n : Int)) = true := by simp; omega
                      have b3' : decide (c < n) = true := by simp; omega
                      go_wp2
                      go_roundw
                      case rel => exact ⟨k + 1, _, by go_num, by omega, LT.out, NT.out, by rw [NO.out]; exact O.out⟩
                      case measure => simp [intOf]; omega
                    · have b3 : decide ((c : Int) < (n : Int)) = false := by simp; omega
                      have b3' : decide (c < n) = false := by simp; omega
                      go_wp2
                      go_roundw
                      case rel => exact ⟨k + 1, _, by go_num, by omega, LT.out, NT.out, by rw [NO.out]; exact O.out⟩
                      case measure => simp [intOf]; omega
              · have b1 : decide ((k : Int) < (len : Int)) = false := by simp; omega
                have b1' : decide (k < len) = false := by simp; omega
                have ke : k = len := by omega
                rw [ke, ASG.out] at O
                obtain ⟨a2, c2', hv2, hr2, _⟩ := row_of_owns O.out.o
                have RR := Lib.hid hr2
                have EL := Lib.hid (show (assignR l n).length = len by rw [assign_len, LN.out])
                simp only [Value.slice.injEq] at hv2
                obtain ⟨rfl, -, rfl⟩ := hv2
                rw [EL.out] at RR
                clear hr2 ke
                go_wp2
                go_ret2
                exact ⟨ao, len, co, by rw [V.out.2]; rfl, by rw [V.out.1]; exact RR.out, below_next B1.out O.out.bel⟩
end Go.Proofs.Ytokmkfoofgiddaa
