/-
  The walk of the law SeatsOnce.
-/
import Derived.Test.YtgkmhnkndjfcaaaUe5
namespace Go.Proofs.Ytgkmhnkndjfcaaa
open Go.RowKit

/-- an array of truths: is a seat taken? -/
def tkA (n : Nat) (fr : List Int) : Array Value := Array.ofFn (n := 64) fun i => .bool (takenB n fr (i.val : Int))
theorem tkA_size (n : Nat) (fr : List Int) : (tkA n fr).size = 64 := by simp [tkA]
theorem tkA_at (n : Nat) (fr : List Int) {j : Nat} (h : j < 64) : (tkA n fr)[j]? = some (.bool (takenB n fr (j : Int))) := by
  unfold tkA
  rw [Array.getElem?_eq_getElem (by simpa using h)]
  simp
theorem tkA_ext {A : Array Value} {n : Nat} {fr : List Int} (hs : A.size = 64) (h : ∀ j, j < 64 → A[j]? = some (.bool (takenB n fr (j : Int)))) : A = tkA n fr := by
  apply Array.ext_getElem?
  intro j
  by_cases q : j < 64
  · rw [h j q, tkA_at n fr q]
  · rw [Array.getElem?_eq_none (by omega), Array.getElem?_eq_none (by rw [tkA_size]; omega)]
theorem tkA_new (n : Nat) : Array.replicate 64 (Value.bool false) = tkA n (ups n) :=
  tkA_ext (by simp) fun j hj => by
    rw [Array.getElem?_replicate, if_pos hj]
    have e : takenB n (ups n) (j : Int) = false := by
      unfold takenB
      by_cases q : (j : Int) < n
      · have : (j : Int) ∈ ups n := ups_mem.mpr ⟨by omega, q⟩
        simp [this]
      · have : decide ((j : Int) < (n : Int)) = false := decide_eq_false q
        rw [this]; simp
    rw [e]
theorem tkA_take (n : Nat) {fr : List Int} {x : Nat} (h : x < 64) (hn : x < n) (hx : (x : Int) ∉ fr) : (tkA n ((x : Int) :: fr)).setIfInBounds x (.bool true) = tkA n fr := by
  refine tkA_ext (by simp [tkA_size]) fun k hk => ?_
  by_cases e : x = k
  · subst e
    rw [Array.getElem?_setIfInBounds_self_of_lt (by rw [tkA_size]; exact h)]
    have : takenB n fr (x : Int) = true := by unfold takenB; simp [hx]; omega
    rw [this]
  · rw [Array.getElem?_setIfInBounds_ne e, tkA_at n _ hk]
    unfold takenB
    have : ¬ (k : Int) = (x : Int) := by omega
    simp [this]
theorem tkA_give (n : Nat) {fr : List Int} {x : Nat} (h : x < 64) (_hx : (x : Int) ∉ fr) : (tkA n fr).setIfInBounds x (.bool false) = tkA n (fr ++ [(x : Int)]) := by
  refine tkA_ext (by simp [tkA_size]) fun k hk => ?_
  by_cases e : x = k
  · subst e
    rw [Array.getElem?_setIfInBounds_self_of_lt (by rw [tkA_size]; exact h)]
    have : takenB n (fr ++ [(x : Int)]) (x : Int) = false := takenB_in (by simp)
    rw [this]
  · rw [Array.getElem?_setIfInBounds_ne e, tkA_at n _ hk]
    unfold takenB
    have : ¬ (k : Int) = (x : Int) := by omega
    simp [this]
theorem zeroA64 (w : World) : (zeroValue 39).run Try.prog w = .ok (.agg (Array.replicate 64 (.bool false))) w := by kernel_rfl

set_option maxRecDepth 20000 in
set_option maxHeartbeats 8000000 in
theorem sonce_walk {Hp : World → Nat → (Nat → Prop) → Nat → List Int → Prop} (ok : SeatsOk Hp) (m : Int) (a : Option Addr) (len cap : Nat) (zs : List Int) (w : World) (hr : Row .i64 w a len cap zs) :
    Calls Try.prog 4 #[.int .i64 m, .slice a len cap] w fun e w' => e = .returned (.bool true) ∧ Below w.heap.size w w' := by
  have HR := Lib.hid hr
  have ⟨k1, k2⟩ := hr.cap_le
  clear hr
  have ⟨n0, n1⟩ := and_low17 m 63 (by omega) (by omega)
  obtain ⟨v0, hv0⟩ : ∃ v, bits .and .i64 m 63 = v := ⟨_, rfl⟩
  rw [hv0] at n0 n1
  obtain ⟨n, hn⟩ := Int.eq_ofNat_of_zero_le (show 0 ≤ 1 + v0 by omega)
  have wn : IntKind.i64.wrap (1 + v0) = (n : Int) := by rw [hn]; exact IntWalk.i64_in _ (by omega)
  have m1 : 1 ≤ n := by omega
  have m64 : n ≤ 64 := by omega
  have HV := Lib.hid hn
  clear hn
  have hz := zeroA64
  go_enter Try.func4, Try.ntmps4
  go_wp2_with fail
  refine (awake17_any ok w).mono ?_
  rintro e w0 ⟨rfl, hb⟩
  have B0 := Lib.hid hb
  clear hb
  go_wp2_with fail
  try rw [hv0]
  try rw [wn]
  refine (m17new ok B0.out n m1 m64).mono ?_
  rintro e w1 ⟨g, rfl, hm⟩
  have M := Lib.hid hm
  clear hm
  go_wp2
  clear hv0 wn hz
  obtain ⟨b, hbq⟩ : ∃ b, w1.heap.size = b := ⟨_, rfl⟩
  obtain ⟨W2, hW2⟩ : ∃ W2, w1.alloc (.cells (Array.replicate 64 (.bool false)) 39) = W2 := ⟨_, rfl⟩
  have X2 := Lib.hid (show Blk W2 39 b (tkA n (ups n)) by rw [← hW2, ← hbq, ← tkA_new]; exact Blk.new _ _ _)
  have M2 := Lib.hid (show Mine17 Hp w (fun q => q = b) g n (ups n) W2 by rw [← hW2]; exact M.out.wrote ok (Keeps.of (wbox _ _)) (fun q e => .inr (by rw [hbq, e]; exact Nat.le_refl _)) (fun q e => by rw [e, ← hbq]; simp))
  rw [hW2, hbq]
  clear hW2 hbq M
  go_loopw [9, 10] (fun t u wr => ∃ (i : Nat) (fr : List Int) (c : Int), u = .int .i64 i ∧ i ≤ len ∧ i ≤ 150 ∧ t = .int .i64 c ∧ c = (n : Int) - fr.length ∧ Blk wr 39 b (tkA n fr) ∧ Mine17 Hp w (fun q => q = b) g n fr wr) (fun _ u _ => len - (intOf u).toNat)
  case atStart => exact ⟨0, ups n, 0, rfl, by omega, by omega, rfl, by rw [ups_len]; omega, X2.out, M2.out⟩
  case round =>
    obtain ⟨i, fr, c, rfl, i1, i150, rfl, hc, hx, hm⟩ := hrel
    have CN := Lib.hid hc
    have X := Lib.hid hx
    have M := Lib.hid hm
    have FL := (hm.good ok).len
    have cl : 0 ≤ c := by omega
    have cu : c ≤ 64 := by omega
    clear hc hx hm FL
    by_cases go : i < len
    · have b1 : decide ((i : Int) < (len : Int)) = true := by simp; omega
      have b1' : decide (i < len) = true := by simp; omega
      by_cases g150 : i < 150
      · have b2 : decide ((i : Int) < 150) = true := by simp; omega
        have b2' : decide (i < 150) = true := by simp; omega
        obtain ⟨ba, oa, rfl, hcell⟩ := HR.out.cell go
        obtain ⟨z, hz⟩ : ∃ z, zs.getD i 0 = z := ⟨_, rfl⟩
        rw [hz] at hcell
        have HCE := Lib.hid hcell
        have ⟨k0, k127⟩ := and_low17 z 127 (by omega) (by omega)
        obtain ⟨kk, hkk⟩ : ∃ kk, bits .and .i64 z 127 = kk := ⟨_, rfl⟩
        rw [hkk] at k0 k127
        have i3 : (i : Int) < (len : Int) := by omega
        have i0 : 0 ≤ (i : Int) := by omega
        clear hcell hz
        cases fr with
        | nil =>
          have t1 : decide (c < (n : Int)) = false := decide_eq_false (by have := CN.out; simp at this; omega)
          go_wp2_with fail
          refine (m17take ok M.out).mono ?_
          rintro e w3 ⟨rfl, hm, hh⟩
          have M := Lib.hid (show Mine17 Hp w (fun q => q = b) g n [] w3 from hm)
          have X := Lib.hid (hh.blk X.out rfl)
          have y := cell_on M.out.below HCE.out
          clear hm hh
          obtain ⟨F0, hF0⟩ : ∃ F0 : List Int, [] = F0 := ⟨_, rfl⟩
          simp only [takeV]
          rw [hF0] at M X CN
          clear hF0
          by_cases kn : kk < (n : Int)
          · have d1 : decide (kk < (n : Int)) = true := decide_eq_true kn
            obtain ⟨k, hk⟩ := Int.eq_ofNat_of_zero_le k0
            subst hk
            have kn' : k < n := by omega
            have k64 : k < 64 := by omega
            by_cases kf : (k : Int) ∈ F0
            · have GV := Lib.hid (show giveV n F0 k = (12, F0) by unfold giveV; rw [if_pos (by omega), if_pos kf])
              have TB := Lib.hid (show takenB n F0 k = false from takenB_in kf)
              clear kf
              go_wp2_with fail
              refine (m17give ok k M.out).mono ?_
              rintro e w5 ⟨rfl, hm, hh⟩
              rw [GV.out] at hm ⊢
              have M := Lib.hid hm
              have X := Lib.hid (hh.blk X.out rfl)
              have x0 := X.out.cell k
              rw [tkA_at n _ k64, TB.out] at x0
              clear hm hh
              obtain ⟨fl, hfl⟩ : ∃ fl : Nat, F0.length = fl := ⟨_, rfl⟩
              have HF := Lib.hid hfl
              have CQ := CN.out
              rw [hfl] at CQ
              clear hfl
              have v1 : IntKind.i64.wrap ((n : Int) - (c)) = (n : Int) - (c) := IntWalk.i64_in _ (by omega)
              have v2 : ((fl : Int) != (n : Int) - (c)) = false := by simp; omega
              have HCQ := Lib.hid CQ
              clear CQ
              go_wp2_with fail
              refine (m17left ok M.out).mono ?_
              rintro e w6 ⟨rfl, hm, hh⟩
              rw [HF.out]
              have M := Lib.hid hm
              have X := Lib.hid (hh.blk X.out rfl)
              clear hm hh
              go_wp2_with fail
              refine (m17ids ok M.out).mono ?_
              rintro e w7 ⟨a1, l1, c1', rfl, hr, hm, hh⟩
              have M := Lib.hid hm
              have X := Lib.hid (hh.blk X.out rfl)
              have v3 : ((l1 : Int) != c) = false := by
                have h1 := ids_len (M.out.good ok)
                have h2 := hr.len
                have h3 := HCQ.out
                rw [HF.out, h2] at h1
                simp; omega
              clear hm hh hr v1 v2
              go_wp2
              go_roundw
              case rel => exact ⟨i + 1, F0, c, by go_num, by omega, by omega, rfl, CN.out, X.out, M.out⟩
              case measure => simp [intOf]; omega
            · have GV := Lib.hid (show giveV n F0 k = (0, F0 ++ [(k : Int)]) by unfold giveV; rw [if_pos (by omega), if_neg kf])
              have TB := Lib.hid (show takenB n F0 k = true by unfold takenB; simp [kf]; omega)
              go_wp2_with fail
              refine (m17give ok k M.out).mono ?_
              rintro e w5 ⟨rfl, hm, hh⟩
              rw [GV.out] at hm ⊢
              have M0 := Lib.hid hm
              have X0 := Lib.hid (hh.blk X.out rfl)
              have x0 := X0.out.cell k
              rw [tkA_at n _ k64, TB.out] at x0
              have f0 := X0.out.free k
              have X := Lib.hid (show Blk (w5.setCell ⟨b, k, none⟩ (.bool false)) 39 b (tkA n (F0 ++ [(k : Int)])) by
                have hs := heap_setCell_same w5 b k _ _ (.bool false) X0.out
                rw [tkA_give n k64 kf] at hs
                exact hs)
              have M := Lib.hid (show Mine17 Hp w (fun q => q = b) g n (F0 ++ [(k : Int)]) (w5.setCell ⟨b, k, none⟩ (.bool false)) from M0.out.wrote ok ((Keeps.refl (fun q => q = b) w5).set (.inl rfl) _ _) (fun _ q => .inl q) (fun q e => by have := X0.out.lt; rw [e]; simpa using this))
              have C0 := CN.out
              have FL := (M0.out.good ok).len
              rw [List.length_append] at FL
              simp only [List.length_singleton] at FL
              have CM := Lib.hid (show c - 1 = (n : Int) - (F0 ++ [(k : Int)]).length by rw [List.length_append]; simp only [List.length_singleton]; omega)
              have dl : 0 ≤ c - 1 := by omega
              have du : c - 1 ≤ 64 := by omega
              obtain ⟨F2, hF2⟩ : ∃ F2, F0 ++ [(k : Int)] = F2 := ⟨_, rfl⟩
              rw [hF2] at X M CM
              clear hm hh kf hF2 C0 FL
              obtain ⟨fl, hfl⟩ : ∃ fl : Nat, F2.length = fl := ⟨_, rfl⟩
              have HF := Lib.hid hfl
              have CQ := CM.out
              rw [hfl] at CQ
              clear hfl
              have v1 : IntKind.i64.wrap ((n : Int) - (c - 1)) = (n : Int) - (c - 1) := IntWalk.i64_in _ (by omega)
              have v2 : ((fl : Int) != (n : Int) - (c - 1)) = false := by simp; omega
              have HCQ := Lib.hid CQ
              clear CQ
              go_wp2_with fail
              refine (m17left ok M.out).mono ?_
              rintro e w6 ⟨rfl, hm, hh⟩
              rw [HF.out]
              have M := Lib.hid hm
              have X := Lib.hid (hh.blk X.out rfl)
              clear hm hh
              go_wp2_with fail
              refine (m17ids ok M.out).mono ?_
              rintro e w7 ⟨a1, l1, c1', rfl, hr, hm, hh⟩
              have M := Lib.hid hm
              have X := Lib.hid (hh.blk X.out rfl)
              have v3 : ((l1 : Int) != c - 1) = false := by
                have h1 := ids_len (M.out.good ok)
                have h2 := hr.len
                have h3 := HCQ.out
                rw [HF.out, h2] at h1
                simp; omega
              clear hm hh hr v1 v2
              go_wp2
              go_roundw
              case rel => exact ⟨i + 1, F2, c - 1, by go_num, by omega, by omega, rfl, CM.out, X.out, M.out⟩
              case measure => simp [intOf]; omega
          · have d1 : decide (kk < (n : Int)) = false := decide_eq_false kn
            clear kn
            obtain ⟨fl, hfl⟩ : ∃ fl : Nat, F0.length = fl := ⟨_, rfl⟩
            have HF := Lib.hid hfl
            have CQ := CN.out
            rw [hfl] at CQ
            clear hfl
            have v1 : IntKind.i64.wrap ((n : Int) - (c)) = (n : Int) - (c) := IntWalk.i64_in _ (by omega)
            have v2 : ((fl : Int) != (n : Int) - (c)) = false := by simp; omega
            have HCQ := Lib.hid CQ
            clear CQ
            go_wp2_with fail
            refine (m17left ok M.out).mono ?_
            rintro e w6 ⟨rfl, hm, hh⟩
            rw [HF.out]
            have M := Lib.hid hm
            have X := Lib.hid (hh.blk X.out rfl)
            clear hm hh
            go_wp2_with fail
            refine (m17ids ok M.out).mono ?_
            rintro e w7 ⟨a1, l1, c1', rfl, hr, hm, hh⟩
            have M := Lib.hid hm
            have X := Lib.hid (hh.blk X.out rfl)
            have v3 : ((l1 : Int) != c) = false := by
              have h1 := ids_len (M.out.good ok)
              have h2 := hr.len
              have h3 := HCQ.out
              rw [HF.out, h2] at h1
              simp; omega
            clear hm hh hr v1 v2
            go_wp2
            go_roundw
            case rel => exact ⟨i + 1, F0, c, by go_num, by omega, by omega, rfl, CN.out, X.out, M.out⟩
            case measure => simp [intOf]; omega
        | cons x fr =>
          have RG := (M.out.good ok).rng x List.mem_cons_self
          have ND := Lib.hid ((List.nodup_cons.mp (M.out.good ok).nd).1)
          obtain ⟨xn, rfl⟩ := Int.eq_ofNat_of_zero_le RG.1
          have xn1 : xn < n := by omega
          have x64 : xn < 64 := by omega
          have CL := CN.out
          rw [List.length_cons] at CL
          have t1 : decide (c < (n : Int)) = true := decide_eq_true (by omega)
          have CD := Lib.hid (show c + 1 = (n : Int) - fr.length by omega)
          have dl : 0 ≤ c + 1 := by omega
          have du : c + 1 ≤ 64 := by omega
          have j1 : (xn : Int) < (n : Int) := by omega
          have j2 : decide ((xn : Int) < 0) = false := by simp
          have j3 : decide ((n : Int) ≤ (xn : Int)) = false := by simp; omega
          have j3' : decide (n ≤ xn) = false := by simp; omega
          clear CL RG
          go_wp2_with fail
          refine (m17take ok M.out).mono ?_
          rintro e w3 ⟨rfl, hm, hh⟩
          have M0 := Lib.hid (show Mine17 Hp w (fun q => q = b) g n fr w3 from hm)
          have X0 := Lib.hid (hh.blk X.out rfl)
          have x0 := X0.out.cell xn
          rw [tkA_at n _ x64, takenB_in (by simp)] at x0
          have f0 := X0.out.free xn
          have X := Lib.hid (show Blk (w3.setCell ⟨b, xn, none⟩ (.bool true)) 39 b (tkA n fr) by
            have hs := heap_setCell_same w3 b xn _ _ (.bool true) X0.out
            rw [tkA_take n x64 xn1 ND.out] at hs
            exact hs)
          have M := Lib.hid (show Mine17 Hp w (fun q => q = b) g n fr (w3.setCell ⟨b, xn, none⟩ (.bool true)) from M0.out.wrote ok ((Keeps.refl (fun q => q = b) w3).set (.inl rfl) _ _) (fun _ q => .inl q) (fun q e => by have := X0.out.lt; rw [e]; simpa using this))
          have y := cell_on M.out.below HCE.out
          clear hm hh
          simp only [takeV]
          by_cases kn : kk < (n : Int)
          · have d1 : decide (kk < (n : Int)) = true := decide_eq_true kn
            obtain ⟨k, hk⟩ := Int.eq_ofNat_of_zero_le k0
            subst hk
            have kn' : k < n := by omega
            have k64 : k < 64 := by omega
            by_cases kf : (k : Int) ∈ fr
            · have GV := Lib.hid (show giveV n fr k = (12, fr) by unfold giveV; rw [if_pos (by omega), if_pos kf])
              have TB := Lib.hid (show takenB n fr k = false from takenB_in kf)
              clear kf
              go_wp2_with fail
              refine (m17give ok k M.out).mono ?_
              rintro e w5 ⟨rfl, hm, hh⟩
              rw [GV.out] at hm ⊢
              have M := Lib.hid hm
              have X := Lib.hid (hh.blk X.out rfl)
              have x0 := X.out.cell k
              rw [tkA_at n _ k64, TB.out] at x0
              clear hm hh
              obtain ⟨fl, hfl⟩ : ∃ fl : Nat, fr.length = fl := ⟨_, rfl⟩
              have HF := Lib.hid hfl
              have CQ := CD.out
              rw [hfl] at CQ
              clear hfl
              have v1 : IntKind.i64.wrap ((n : Int) - (c + 1)) = (n : Int) - (c + 1) := IntWalk.i64_in _ (by omega)
              have v2 : ((fl : Int) != (n : Int) - (c + 1)) = false := by simp; omega
              have HCQ := Lib.hid CQ
              clear CQ
              go_wp2_with fail
              refine (m17left ok M.out).mono ?_
              rintro e w6 ⟨rfl, hm, hh⟩
              rw [HF.out]
              have M := Lib.hid hm
              have X := Lib.hid (hh.blk X.out rfl)
              clear hm hh
              go_wp2_with fail
              refine (m17ids ok M.out).mono ?_
              rintro e w7 ⟨a1, l1, c1', rfl, hr, hm, hh⟩
              have M := Lib.hid hm
              have X := Lib.hid (hh.blk X.out rfl)
              have v3 : ((l1 : Int) != c + 1) = false := by
                have h1 := ids_len (M.out.good ok)
                have h2 := hr.len
                have h3 := HCQ.out
                rw [HF.out, h2] at h1
                simp; omega
              clear hm hh hr v1 v2
              go_wp2
              go_roundw
              case rel => exact ⟨i + 1, fr, c + 1, by go_num, by omega, by omega, rfl, CD.out, X.out, M.out⟩
              case measure => simp [intOf]; omega
            · have GV := Lib.hid (show giveV n fr k = (0, fr ++ [(k : Int)]) by unfold giveV; rw [if_pos (by omega), if_neg kf])
              have TB := Lib.hid (show takenB n fr k = true by unfold takenB; simp [kf]; omega)
              go_wp2_with fail
              refine (m17give ok k M.out).mono ?_
              rintro e w5 ⟨rfl, hm, hh⟩
              rw [GV.out] at hm ⊢
              have M0 := Lib.hid hm
              have X0 := Lib.hid (hh.blk X.out rfl)
              have x0 := X0.out.cell k
              rw [tkA_at n _ k64, TB.out] at x0
              have f0 := X0.out.free k
              have X := Lib.hid (show Blk (w5.setCell ⟨b, k, none⟩ (.bool false)) 39 b (tkA n (fr ++ [(k : Int)])) by
                have hs := heap_setCell_same w5 b k _ _ (.bool false) X0.out
                rw [tkA_give n k64 kf] at hs
                exact hs)
              have M := Lib.hid (show Mine17 Hp w (fun q => q = b) g n (fr ++ [(k : Int)]) (w5.setCell ⟨b, k, none⟩ (.bool false)) from M0.out.wrote ok ((Keeps.refl (fun q => q = b) w5).set (.inl rfl) _ _) (fun _ q => .inl q) (fun q e => by have := X0.out.lt; rw [e]; simpa using this))
              have C0 := CD.out
              have FL := (M0.out.good ok).len
              rw [List.length_append] at FL
              simp only [List.length_singleton] at FL
              have CM := Lib.hid (show c = (n : Int) - (fr ++ [(k : Int)]).length by rw [List.length_append]; simp only [List.length_singleton]; omega)
              have dl : 0 ≤ c := by omega
              have du : c ≤ 64 := by omega
              obtain ⟨F2, hF2⟩ : ∃ F2, fr ++ [(k : Int)] = F2 := ⟨_, rfl⟩
              rw [hF2] at X M CM
              clear hm hh kf hF2 C0 FL
              obtain ⟨fl, hfl⟩ : ∃ fl : Nat, F2.length = fl := ⟨_, rfl⟩
              have HF := Lib.hid hfl
              have CQ := CM.out
              rw [hfl] at CQ
              clear hfl
              have v1 : IntKind.i64.wrap ((n : Int) - (c)) = (n : Int) - (c) := IntWalk.i64_in _ (by omega)
              have v2 : ((fl : Int) != (n : Int) - (c)) = false := by simp; omega
              have HCQ := Lib.hid CQ
              clear CQ
              go_wp2_with fail
              refine (m17left ok M.out).mono ?_
              rintro e w6 ⟨rfl, hm, hh⟩
              rw [HF.out]
              have M := Lib.hid hm
              have X := Lib.hid (hh.blk X.out rfl)
              clear hm hh
              go_wp2_with fail
              refine (m17ids ok M.out).mono ?_
              rintro e w7 ⟨a1, l1, c1', rfl, hr, hm, hh⟩
              have M := Lib.hid hm
              have X := Lib.hid (hh.blk X.out rfl)
              have v3 : ((l1 : Int) != c) = false := by
                have h1 := ids_len (M.out.good ok)
                have h2 := hr.len
                have h3 := HCQ.out
                rw [HF.out, h2] at h1
                simp; omega
              clear hm hh hr v1 v2
              go_wp2
              go_roundw
              case rel => exact ⟨i + 1, F2, c, by go_num, by omega, by omega, rfl, CM.out, X.out, M.out⟩
              case measure => simp [intOf]; omega
          · have d1 : decide (kk < (n : Int)) = false := decide_eq_false kn
            clear kn
            obtain ⟨fl, hfl⟩ : ∃ fl : Nat, fr.length = fl := ⟨_, rfl⟩
            have HF := Lib.hid hfl
            have CQ := CD.out
            rw [hfl] at CQ
            clear hfl
            have v1 : IntKind.i64.wrap ((n : Int) - (c + 1)) = (n : Int) - (c + 1) := IntWalk.i64_in _ (by omega)
            have v2 : ((fl : Int) != (n : Int) - (c + 1)) = false := by simp; omega
            have HCQ := Lib.hid CQ
            clear CQ
            go_wp2_with fail
            refine (m17left ok M.out).mono ?_
            rintro e w6 ⟨rfl, hm, hh⟩
            rw [HF.out]
            have M := Lib.hid hm
            have X := Lib.hid (hh.blk X.out rfl)
            clear hm hh
            go_wp2_with fail
            refine (m17ids ok M.out).mono ?_
            rintro e w7 ⟨a1, l1, c1', rfl, hr, hm, hh⟩
            have M := Lib.hid hm
            have X := Lib.hid (hh.blk X.out rfl)
            have v3 : ((l1 : Int) != c + 1) = false := by
              have h1 := ids_len (M.out.good ok)
              have h2 := hr.len
              have h3 := HCQ.out
              rw [HF.out, h2] at h1
              simp; omega
            clear hm hh hr v1 v2
            go_wp2
            go_roundw
            case rel => exact ⟨i + 1, fr, c + 1, by go_num, by omega, by omega, rfl, CD.out, X.out, M.out⟩
            case measure => simp [intOf]; omega
      · have b2 : decide ((i : Int) < 150) = false := by simp; omega
        have b2' : decide (i < 150) = false := by simp; omega
        have BF := Lib.hid M.out.below
        go_wp2
        go_ret
        exact ⟨rfl, BF.out⟩
    · have b1 : decide ((i : Int) < (len : Int)) = false := by simp; omega
      have b1' : decide (i < len) = false := by simp; omega
      have BF := Lib.hid M.out.below
      go_wp2
      go_ret
      exact ⟨rfl, BF.out⟩
end Go.Proofs.Ytgkmhnkndjfcaaa
