/-
  The walk of the law HeapRemoves, for a package heap that is as P7.1 and P7.2 say.
-/
import Derived.Test.YtimafmalfmeehaaHi3
namespace Go.Proofs.Ytimafmalfmeehaa
open Go.RowKit

theorem mem_erase {ts : List Th} {k : Nat} {s : Th} (h : s ∈ ts.eraseIdx k) : s ∈ ts := List.mem_of_mem_eraseIdx h
theorem m15_bd (x : Int) : 0 ≤ m15 x ∧ m15 x ≤ 15 := by
  unfold m15
  have h : (BitVec.ofInt 64 x &&& BitVec.ofInt 64 15).toNat ≤ 15 := by
    rw [BitVec.toNat_and]
    exact Nat.and_le_right
  have e : bits .and .i64 x 15 = ((BitVec.ofInt 64 x &&& BitVec.ofInt 64 15).toNat : Int) := by
    show IntKind.i64.wrap ((BitVec.ofInt 64 x &&& BitVec.ofInt 64 15).toNat : Int) = _
    exact IntWalk.i64_in _ (by omega)
  omega
set_option maxRecDepth 20000 in
set_option maxHeartbeats 4000000 in
theorem hremoves_walk {Hp : World → Nat → (Nat → Prop) → List Th → Prop} (ok : HeapOk Hp) (a b : Option Addr) (len cap lb cb : Nat) (zs : List Int) (bs : List Bool) (w : World) (h : Row .i64 w a len cap zs) (hB : RowB w b lb cb bs) : Calls Try.prog 5 #[.slice a len cap, .slice b lb cb] w fun e w' => e = .returned (.bool true) ∧ Below w.heap.size w w' := by
  have OK := Lib.hid ok
  have Z := Lib.hid h
  have T := Lib.hid hB
  have LB := Lib.hid hB.len
  have zc := h.cap_le
  have zb : lb ≤ cb ∧ cb ≤ 9223372036854775807 := RowF.cap_le hB
  clear h ok hB
  go_enter Try.func5, Try.ntmps5
  go_wp2_with fail
  refine (l7awake OK.out _).mono ?_
  rintro e w1 ⟨rfl, hb⟩
  have B := Lib.hid hb
  clear hb
  go_wp2_with fail
  refine (m7new OK.out _ B.out).mono ?_
  rintro e w2 ⟨g, rfl, hm⟩
  have M := Lib.hid hm
  clear hm B
  by_cases big : 40 < len
  · have t1 : decide (40 < len) = true := by simp; omega
    have t2 : decide ((40 : Int) < (len : Int)) = true := by simp; omega
    go_wp2
    obtain ⟨n, hn, n1, n2⟩ : ∃ n : Nat, (40 : Int) = (n : Int) ∧ n ≤ len ∧ n ≤ 40 := ⟨40, rfl, by omega, by omega⟩
    rw [hn]
    clear hn t1 t2
    go_loopw [8] (fun u wr => ∃ i : Nat, u = .int .i64 i ∧ i ≤ n ∧ Mine7 Hp w g (numT zs i) wr) (fun u _ => n - (intOf u).toNat)
    case atStart => exact ⟨0, rfl, by omega, M.out⟩
    case round =>
      obtain ⟨i, rfl, il, hm⟩ := hrel
      clear M
      have M := Lib.hid hm
      clear hm
      by_cases d1 : i < n
      · have b1 : decide (i < n) = true := by simp; omega
        have b2 : decide ((i : Int) < (n : Int)) = true := by simp; omega
        obtain ⟨ba, oa, ha, hca⟩ := Z.out.cell (show i < len by omega)
        subst ha
        obtain ⟨x, hx⟩ : ∃ x, zs.getD i 0 = x := ⟨_, rfl⟩
        rw [hx] at hca
        have xc := hb_cell M.out.below hca
        have NS := Lib.hid (show numT zs (i + 1) = numT zs i ++ [⟨(i : Int), x⟩] by rw [numT_snoc, hx])
        clear hca hx
        have i1 : (i : Int) < (len : Int) := by omega
        have i2 : 0 ≤ (i : Int) := by omega
        go_wp2_with fail
        refine (m7push OK.out g (numT zs i) (i : Int) x M.out (by unfold InR; omega) (by rw [numT_len]; omega)).mono ?_
        rintro e w3 (⟨h, _, _⟩ | ⟨_, rfl, hm⟩)
        · rw [numT_new] at h; omega
        rw [← NS.out] at hm
        have M := Lib.hid hm
        clear hm xc
        go_wp2
        go_roundw
        case rel => exact ⟨i + 1, by go_num, by omega, M.out⟩
        case measure => simp [intOf]; omega
      have b1 : decide (i < n) = false := by simp; omega
      have b2 : decide ((i : Int) < (n : Int)) = false := by simp; omega
      have M := Lib.hid (show Mine7 Hp w g (leftT zs bs n 0) wr by rw [leftT_zero]; have := M.out; rw [show i = n by omega] at this; exact this)
      obtain ⟨wa, hwa⟩ : ∃ wa, wa = wr := ⟨_, rfl⟩
      rw [← hwa] at M ⊢
      clear hwa
      go_wp2
      go_loopw [9, 10] (fun v u wr => ∃ i : Nat, u = .int .i64 i ∧ i ≤ n ∧ i ≤ lb ∧ v = .int .i64 ((leftT zs bs n i).length : Nat) ∧ Mine7 Hp w g (leftT zs bs n i) wr) (fun _ u _ => n - (intOf u).toNat)
      case atStart => exact ⟨0, rfl, by omega, by omega, by rw [leftT_zero, numT_len], M.out⟩
      case round =>
        obtain ⟨i, rfl, il, ib, rfl, hm⟩ := hrel
        clear M
        have M := Lib.hid hm
        clear hm
        have lle : (leftT zs bs n i).length ≤ n := Nat.le_trans (List.length_filter_le _ _) (by rw [numT_len]; exact Nat.le_refl _)
        by_cases d1 : i < n
        · have b3 : decide (i < n) = true := by simp; omega
          have b4 : decide ((i : Int) < (n : Int)) = true := by simp; omega
          by_cases d2 : i < lb
          · have b5 : decide (i < lb) = true := by simp; omega
            have b6 : decide ((i : Int) < (lb : Int)) = true := by simp; omega
            obtain ⟨bb, ob, hab, hcb⟩ := T.out.at d2
            subst hab
            obtain ⟨ba, oa, ha, hca⟩ := Z.out.cell (show i < len by omega)
            subst ha
            have i1 : (i : Int) < (len : Int) := by omega
            have i2 : 0 ≤ (i : Int) := by omega
            have i3 : (i : Int) < (lb : Int) := by omega
            have tb := hb_cell M.out.below hcb
            cases q : bs.getD i false with
            | false =>
              rw [q] at tb
              have EL := Lib.hid (leftT_keep zs bs n i q)
              clear q hcb hca
              go_wp2
              go_roundw
              case rel => exact ⟨i + 1, by go_num, by omega, by omega, by rw [EL.out], by rw [EL.out]; exact M.out⟩
              case measure => simp [intOf]; omega
            | true =>
              rw [q] at tb
              obtain ⟨x, hx⟩ : ∃ x, zs.getD i 0 = x := ⟨_, rfl⟩
              rw [hx] at hca
              have HA := Lib.hid hca
              have IN := Lib.hid (leftT_has (zs := zs) (bs := bs) d1)
              have LT := Lib.hid (leftT_take zs bs n i q)
              have HX := Lib.hid hx
              obtain ⟨ts, hts⟩ : ∃ ts, leftT zs bs n i = ts := ⟨_, rfl⟩
              rw [hts] at M IN LT lle ⊢
              clear q hcb hca hx hts
              go_wp2_with fail
              refine (m7remove OK.out g ts (i : Int) M.out (by unfold InR; omega) (by omega)).mono ?_
              rintro e w4 (⟨h, _, _⟩ | ⟨k, t, hp, ht, rfl, hm⟩)
              · exact absurd h (by have := place_mem IN.out; simp only at this; omega)
              have ti := place_is hp ht
              have OWN := Mine7.own OK.out M.out
              have ER := Lib.hid (show ts.eraseIdx k = leftT zs bs n (i + 1) by rw [erase_place OWN ht, ti]; exact LT.out)
              have LE := Lib.hid (show (ts.eraseIdx k).length = ts.length - 1 from by
                rw [List.length_eraseIdx, if_pos (by rcases Nat.lt_or_ge k ts.length with y | y; exact y; rw [List.getElem?_eq_none y] at ht; cases ht)])
              have tx : t.x = x := by
                have h1 := IN.out
                obtain ⟨j, hj⟩ := List.mem_iff_getElem?.mp h1
                have := place_found (ts := ts) (id := (i : Int)) ht ti (fun s hs => by
                  obtain ⟨l, hl, e⟩ := List.mem_iff_getElem.mp hs
                  rw [List.length_take] at hl
                  rw [List.getElem_take] at e
                  have kl : k < ts.length := by rcases Nat.lt_or_ge k ts.length with y | y; exact y; rw [List.getElem?_eq_none y] at ht; cases ht
                  rw [List.pairwise_iff_getElem] at OWN
                  have := OWN l k (by omega) kl (by omega)
                  rw [List.getElem?_eq_getElem kl] at ht
                  simp at ht
                  rw [e, ht, ti] at this
                  exact this)
                have e : t = ⟨(i : Int), zs.getD i 0⟩ := by
                  have kl : k < ts.length := by rcases Nat.lt_or_ge k ts.length with y | y; exact y; rw [List.getElem?_eq_none y] at ht; cases ht
                  have jl : j < ts.length := by rcases Nat.lt_or_ge j ts.length with y | y; exact y; rw [List.getElem?_eq_none y] at hj; cases hj
                  rw [List.getElem?_eq_getElem kl] at ht
                  rw [List.getElem?_eq_getElem jl] at hj
                  simp at ht hj
                  rw [List.pairwise_iff_getElem] at OWN
                  rcases Nat.lt_trichotomy k j with y | y | y
                  · have := OWN k j kl jl y; rw [ht, hj] at this; exact absurd ti this
                  · subst y; rw [← ht, hj, List.getD_eq_getElem?_getD]
                  · have := OWN j k jl kl y; rw [ht, hj] at this; exact absurd ti.symm this
                rw [e]; exact HX.out
              rw [tx]
              have tpos : 0 < ts.length := List.length_pos_of_mem IN.out
              have M := Lib.hid hm
              have xc := hb_cell hm.below HA.out
              have GN := Lib.hid (show placeT (ts.eraseIdx k) (i : Int) < 0 by rw [erase_place OWN ht, ti]; exact place_gone)
              clear hm tb hp ht ti tx OWN
              go_wp2_with fail
              refine (m7remove OK.out g _ (i : Int) M.out (by unfold InR; omega) (by rw [LE.out]; omega)).mono ?_
              rintro e w5 (⟨_, rfl, hm⟩ | ⟨k', t', hp, _, _, _⟩)
              case inr => exact absurd GN.out (by rw [hp]; omega)
              have M := Lib.hid hm
              have xc := hb_cell hm.below HA.out
              clear hm
              rw [ER.out] at M LE
              go_wp2
              go_roundw
              case rel => exact ⟨i + 1, by go_num, by omega, by omega, by rw [LE.out]; congr 1; omega, M.out⟩
              case measure => simp [intOf]; omega
          · have b5 : decide (i < lb) = false := by simp; omega
            have b6 : decide ((i : Int) < (lb : Int)) = false := by simp; omega
            have GD := Lib.hid (show ∀ s ∈ leftT zs bs n i, ∃ j : Nat, j < n ∧ s = ⟨(j : Int), zs.getD j 0⟩ ∧ (j < lb → bs.getD j false = false) from fun s hs => by
              obtain ⟨j, h1, h2, h3⟩ := leftT_mem hs
              refine ⟨j, h1, h2, fun q => ?_⟩
              cases e : bs.getD j false with
              | false => rfl
              | true => exact absurd ⟨by omega, e⟩ h3)
            obtain ⟨ts0, hts0⟩ : ∃ ts, leftT zs bs n i = ts := ⟨_, rfl⟩
            rw [hts0] at M GD lle ⊢
            clear hts0
            obtain ⟨left, hleft⟩ : ∃ left, ts0.length = left := ⟨_, rfl⟩
            rw [hleft] at lle ⊢
            have HLF := Lib.hid hleft
            clear hleft
            obtain ⟨wb, hwb⟩ : ∃ wb, wb = wr := ⟨_, rfl⟩
            rw [← hwb] at M ⊢
            clear hwb
            go_wp2
            go_loopw [15, 16] (fun v u wr => ∃ (i : Nat) (last : Int) (ts : List Th), u = .int .i64 i ∧ i ≤ left ∧ v = .int .i64 last ∧ ts.length + i = left ∧ (∀ s ∈ ts, s ∈ ts0) ∧ (∀ s ∈ ts, last ≤ m15 s.x) ∧ -1 ≤ last ∧ last ≤ 15 ∧ Mine7 Hp w g ts wr) (fun _ u _ => left - (intOf u).toNat)
            case atStart => exact ⟨0, -1, ts0, rfl, by omega, rfl, HLF.out, fun s h => h, fun s _ => by have := (m15_bd s.x).1; omega, by omega, by omega, M.out⟩
            case round =>
              obtain ⟨l, last, ts, rfl, ll, rfl, hlen, hsub, hlast, l0, l15, hm⟩ := hrel
              clear M
              have M := Lib.hid hm
              have SUB := Lib.hid hsub
              have LAST := Lib.hid hlast
              have HL := Lib.hid hlen
              clear hm hsub hlast
              by_cases d3 : l < left
              · have b7 : decide (l < left) = true := by simp; omega
                have b8 : decide ((l : Int) < (left : Int)) = true := by simp; omega
                go_wp2_with fail
                refine (m7pop OK.out g ts M.out (by omega)).mono ?_
                rintro e w6 (⟨h, _, _⟩ | ⟨k, t, ht, hmin, rfl, hm⟩)
                · rw [h] at hlen; simp at hlen; omega
                have tm := List.mem_of_getElem? ht
                obtain ⟨j, jn, rfl, jf⟩ := GD.out t (SUB.out t tm)
                have lt := LAST.out _ tm
                have AH := Lib.hid (show ∀ s ∈ ts, m15 (zs.getD j 0) ≤ m15 s.x from fun s hs => by
                  obtain ⟨t', ht', ha⟩ := hmin
                  rw [ht] at ht'
                  have ht' := Option.some.inj ht'
                  rw [List.take_of_length_le (Nat.le_refl _)] at ha
                  have := ha s hs
                  rw [← ht'] at this
                  unfold AheadT at this
                  simp only at this
                  omega)
                have LE := Lib.hid (show (ts.eraseIdx k).length = ts.length - 1 from by
                  rw [List.length_eraseIdx, if_pos (by rcases Nat.lt_or_ge k ts.length with y | y; exact y; rw [List.getElem?_eq_none y] at ht; cases ht)])
                have tpos : 0 < ts.length := List.length_pos_of_mem tm
                have bd := m15_bd (zs.getD j 0)
                have M := Lib.hid hm
                have t3 : decide ((j : Int) < 0) = false := decide_eq_false (by omega)
                have t4 : decide ((n : Int) ≤ (j : Int)) = false := decide_eq_false (by omega)
                have t4n : decide (n ≤ j) = false := decide_eq_false (by omega)
                simp only at lt
                obtain ⟨x, hx⟩ : ∃ x, zs.getD j 0 = x := ⟨_, rfl⟩
                rw [hx] at AH bd lt
                simp only
                rw [hx]
                obtain ⟨p, hp⟩ : ∃ p, bits .and .i64 x 15 = p := ⟨_, rfl⟩
                have hp' : m15 x = p := hp
                rw [hp'] at AH bd lt
                have t5 : decide (p < last) = false := decide_eq_false (by omega)
                clear hm hmin ht tm hx hlen
                by_cases d4 : j < lb
                · have t6 : decide ((j : Int) < (lb : Int)) = true := decide_eq_true (by omega)
                  have t6n : decide (j < lb) = true := decide_eq_true d4
                  have jb := jf d4
                  obtain ⟨bb', ob', hab', hcb'⟩ := T.out.at d4
                  subst hab'
                  rw [jb] at hcb'
                  have tb' := hb_cell M.out.below hcb'
                  have j1 : (j : Int) < (lb : Int) := by omega
                  have j2 : 0 ≤ (j : Int) := by omega
                  clear jf jb hcb'
                  go_wp2
                  go_roundw
                  case rel => exact ⟨l + 1, p, ts.eraseIdx k, by go_num, by omega, rfl, by rw [LE.out]; have := HL.out; omega, fun s hs => SUB.out s (mem_erase hs), fun s hs => AH.out s (mem_erase hs), by omega, by omega, M.out⟩
                  case measure => simp [intOf]; omega
                · have t6 : decide ((j : Int) < (lb : Int)) = false := decide_eq_false (by omega)
                  have t6n : decide (j < lb) = false := decide_eq_false d4
                  clear jf
                  go_wp2
                  go_roundw
                  case rel => exact ⟨l + 1, p, ts.eraseIdx k, by go_num, by omega, rfl, by rw [LE.out]; have := HL.out; omega, fun s hs => SUB.out s (mem_erase hs), fun s hs => AH.out s (mem_erase hs), by omega, by omega, M.out⟩
                  case measure => simp [intOf]; omega
              · have b7 : decide (l < left) = false := by simp; omega
                have b8 : decide ((l : Int) < (left : Int)) = false := by simp; omega
                have L0 := Lib.hid (show ts.length = 0 by omega)
                go_wp2_with fail
                refine (m7len OK.out g ts M.out (by omega)).mono ?_
                rintro e w7 ⟨rfl, hm⟩
                rw [L0.out]
                have M := Lib.hid hm
                clear hm
                go_wp2
                go_ret
                exact ⟨rfl, M.out.below⟩
        · have b3 : decide (i < n) = false := by simp; omega
          have b4 : decide ((i : Int) < (n : Int)) = false := by simp; omega
          have GD := Lib.hid (show ∀ s ∈ leftT zs bs n i, ∃ j : Nat, j < n ∧ s = ⟨(j : Int), zs.getD j 0⟩ ∧ (j < lb → bs.getD j false = false) from fun s hs => by
            obtain ⟨j, h1, h2, h3⟩ := leftT_mem hs
            refine ⟨j, h1, h2, fun q => ?_⟩
            cases e : bs.getD j false with
            | false => rfl
            | true => exact absurd ⟨by omega, e⟩ h3)
          obtain ⟨ts0, hts0⟩ : ∃ ts, leftT zs bs n i = ts := ⟨_, rfl⟩
          rw [hts0] at M GD lle ⊢
          clear hts0
          obtain ⟨left, hleft⟩ : ∃ left, ts0.length = left := ⟨_, rfl⟩
          rw [hleft] at lle ⊢
          have HLF := Lib.hid hleft
          clear hleft
          obtain ⟨wb, hwb⟩ : ∃ wb, wb = wr := ⟨_, rfl⟩
          rw [← hwb] at M ⊢
          clear hwb
          go_wp2
          go_loopw [15, 16] (fun v u wr => ∃ (i : Nat) (last : Int) (ts : List Th), u = .int .i64 i ∧ i ≤ left ∧ v = .int .i64 last ∧ ts.length + i = left ∧ (∀ s ∈ ts, s ∈ ts0) ∧ (∀ s ∈ ts, last ≤ m15 s.x) ∧ -1 ≤ last ∧ last ≤ 15 ∧ Mine7 Hp w g ts wr) (fun _ u _ => left - (intOf u).toNat)
          case atStart => exact ⟨0, -1, ts0, rfl, by omega, rfl, HLF.out, fun s h => h, fun s _ => by have := (m15_bd s.x).1; omega, by omega, by omega, M.out⟩
          case round =>
            obtain ⟨l, last, ts, rfl, ll, rfl, hlen, hsub, hlast, l0, l15, hm⟩ := hrel
            clear M
            have M := Lib.hid hm
            have SUB := Lib.hid hsub
            have LAST := Lib.hid hlast
            have HL := Lib.hid hlen
            clear hm hsub hlast
            by_cases d3 : l < left
            · have b7 : decide (l < left) = true := by simp; omega
              have b8 : decide ((l : Int) < (left : Int)) = true := by simp; omega
              go_wp2_with fail
              refine (m7pop OK.out g ts M.out (by omega)).mono ?_
              rintro e w6 (⟨h, _, _⟩ | ⟨k, t, ht, hmin, rfl, hm⟩)
              · rw [h] at hlen; simp at hlen; omega
              have tm := List.mem_of_getElem? ht
              obtain ⟨j, jn, rfl, jf⟩ := GD.out t (SUB.out t tm)
              have lt := LAST.out _ tm
              have AH := Lib.hid (show ∀ s ∈ ts, m15 (zs.getD j 0) ≤ m15 s.x from fun s hs => by
                obtain ⟨t', ht', ha⟩ := hmin
                rw [ht] at ht'
                have ht' := Option.some.inj ht'
                rw [List.take_of_length_le (Nat.le_refl _)] at ha
                have := ha s hs
                rw [← ht'] at this
                unfold AheadT at this
                simp only at this
                omega)
              have LE := Lib.hid (show (ts.eraseIdx k).length = ts.length - 1 from by
                rw [List.length_eraseIdx, if_pos (by rcases Nat.lt_or_ge k ts.length with y | y; exact y; rw [List.getElem?_eq_none y] at ht; cases ht)])
              have tpos : 0 < ts.length := List.length_pos_of_mem tm
              have bd := m15_bd (zs.getD j 0)
              have M := Lib.hid hm
              have t3 : decide ((j : Int) < 0) = false := decide_eq_false (by omega)
              have t4 : decide ((n : Int) ≤ (j : Int)) = false := decide_eq_false (by omega)
              have t4n : decide (n ≤ j) = false := decide_eq_false (by omega)
              simp only at lt
              obtain ⟨x, hx⟩ : ∃ x, zs.getD j 0 = x := ⟨_, rfl⟩
              rw [hx] at AH bd lt
              simp only
              rw [hx]
              obtain ⟨p, hp⟩ : ∃ p, bits .and .i64 x 15 = p := ⟨_, rfl⟩
              have hp' : m15 x = p := hp
              rw [hp'] at AH bd lt
              have t5 : decide (p < last) = false := decide_eq_false (by omega)
              clear hm hmin ht tm hx hlen
              by_cases d4 : j < lb
              · have t6 : decide ((j : Int) < (lb : Int)) = true := decide_eq_true (by omega)
                have t6n : decide (j < lb) = true := decide_eq_true d4
                have jb := jf d4
                obtain ⟨bb', ob', hab', hcb'⟩ := T.out.at d4
                subst hab'
                rw [jb] at hcb'
                have tb' := hb_cell M.out.below hcb'
                have j1 : (j : Int) < (lb : Int) := by omega
                have j2 : 0 ≤ (j : Int) := by omega
                clear jf jb hcb'
                go_wp2
                go_roundw
                case rel => exact ⟨l + 1, p, ts.eraseIdx k, by go_num, by omega, rfl, by rw [LE.out]; have := HL.out; omega, fun s hs => SUB.out s (mem_erase hs), fun s hs => AH.out s (mem_erase hs), by omega, by omega, M.out⟩
                case measure => simp [intOf]; omega
              · have t6 : decide ((j : Int) < (lb : Int)) = false := decide_eq_false (by omega)
                have t6n : decide (j < lb) = false := decide_eq_false d4
                clear jf
                go_wp2
                go_roundw
                case rel => exact ⟨l + 1, p, ts.eraseIdx k, by go_num, by omega, rfl, by rw [LE.out]; have := HL.out; omega, fun s hs => SUB.out s (mem_erase hs), fun s hs => AH.out s (mem_erase hs), by omega, by omega, M.out⟩
                case measure => simp [intOf]; omega
            · have b7 : decide (l < left) = false := by simp; omega
              have b8 : decide ((l : Int) < (left : Int)) = false := by simp; omega
              have L0 := Lib.hid (show ts.length = 0 by omega)
              go_wp2_with fail
              refine (m7len OK.out g ts M.out (by omega)).mono ?_
              rintro e w7 ⟨rfl, hm⟩
              rw [L0.out]
              have M := Lib.hid hm
              clear hm
              go_wp2
              go_ret
              exact ⟨rfl, M.out.below⟩
  · have t1 : decide (40 < len) = false := by simp; omega
    have t2 : decide ((40 : Int) < (len : Int)) = false := by simp; omega
    go_wp2
    obtain ⟨n, hn, n1, n2⟩ : ∃ n : Nat, (len : Int) = (n : Int) ∧ n ≤ len ∧ n ≤ 40 := ⟨len, rfl, by omega, by omega⟩
    rw [hn]
    clear hn t1 t2
    go_loopw [8] (fun u wr => ∃ i : Nat, u = .int .i64 i ∧ i ≤ n ∧ Mine7 Hp w g (numT zs i) wr) (fun u _ => n - (intOf u).toNat)
    case atStart => exact ⟨0, rfl, by omega, M.out⟩
    case round =>
      obtain ⟨i, rfl, il, hm⟩ := hrel
      clear M
      have M := Lib.hid hm
      clear hm
      by_cases d1 : i < n
      · have b1 : decide (i < n) = true := by simp; omega
        have b2 : decide ((i : Int) < (n : Int)) = true := by simp; omega
        obtain ⟨ba, oa, ha, hca⟩ := Z.out.cell (show i < len by omega)
        subst ha
        obtain ⟨x, hx⟩ : ∃ x, zs.getD i 0 = x := ⟨_, rfl⟩
        rw [hx] at hca
        have xc := hb_cell M.out.below hca
        have NS := Lib.hid (show numT zs (i + 1) = numT zs i ++ [⟨(i : Int), x⟩] by rw [numT_snoc, hx])
        clear hca hx
        have i1 : (i : Int) < (len : Int) := by omega
        have i2 : 0 ≤ (i : Int) := by omega
        go_wp2_with fail
        refine (m7push OK.out g (numT zs i) (i : Int) x M.out (by unfold InR; omega) (by rw [numT_len]; omega)).mono ?_
        rintro e w3 (⟨h, _, _⟩ | ⟨_, rfl, hm⟩)
        · rw [numT_new] at h; omega
        rw [← NS.out] at hm
        have M := Lib.hid hm
        clear hm xc
        go_wp2
        go_roundw
        case rel => exact ⟨i + 1, by go_num, by omega, M.out⟩
        case measure => simp [intOf]; omega
      have b1 : decide (i < n) = false := by simp; omega
      have b2 : decide ((i : Int) < (n : Int)) = false := by simp; omega
      have M := Lib.hid (show Mine7 Hp w g (leftT zs bs n 0) wr by rw [leftT_zero]; have := M.out; rw [show i = n by omega] at this; exact this)
      obtain ⟨wa, hwa⟩ : ∃ wa, wa = wr := ⟨_, rfl⟩
      rw [← hwa] at M ⊢
      clear hwa
      go_wp2
      go_loopw [9, 10] (fun v u wr => ∃ i : Nat, u = .int .i64 i ∧ i ≤ n ∧ i ≤ lb ∧ v = .int .i64 ((leftT zs bs n i).length : Nat) ∧ Mine7 Hp w g (leftT zs bs n i) wr) (fun _ u _ => n - (intOf u).toNat)
      case atStart => exact ⟨0, rfl, by omega, by omega, by rw [leftT_zero, numT_len], M.out⟩
      case round =>
        obtain ⟨i, rfl, il, ib, rfl, hm⟩ := hrel
        clear M
        have M := Lib.hid hm
        clear hm
        have lle : (leftT zs bs n i).length ≤ n := Nat.le_trans (List.length_filter_le _ _) (by rw [numT_len]; exact Nat.le_refl _)
        by_cases d1 : i < n
        · have b3 : decide (i < n) = true := by simp; omega
          have b4 : decide ((i : Int) < (n : Int)) = true := by simp; omega
          by_cases d2 : i < lb
          · have b5 : decide (i < lb) = true := by simp; omega
            have b6 : decide ((i : Int) < (lb : Int)) = true := by simp; omega
            obtain ⟨bb, ob, hab, hcb⟩ := T.out.at d2
            subst hab
            obtain ⟨ba, oa, ha, hca⟩ := Z.out.cell (show i < len by omega)
            subst ha
            have i1 : (i : Int) < (len : Int) := by omega
            have i2 : 0 ≤ (i : Int) := by omega
            have i3 : (i : Int) < (lb : Int) := by omega
            have tb := hb_cell M.out.below hcb
            cases q : bs.getD i false with
            | false =>
              rw [q] at tb
              have EL := Lib.hid (leftT_keep zs bs n i q)
              clear q hcb hca
              go_wp2
              go_roundw
              case rel => exact ⟨i + 1, by go_num, by omega, by omega, by rw [EL.out], by rw [EL.out]; exact M.out⟩
              case measure => simp [intOf]; omega
            | true =>
              rw [q] at tb
              obtain ⟨x, hx⟩ : ∃ x, zs.getD i 0 = x := ⟨_, rfl⟩
              rw [hx] at hca
              have HA := Lib.hid hca
              have IN := Lib.hid (leftT_has (zs := zs) (bs := bs) d1)
              have LT := Lib.hid (leftT_take zs bs n i q)
              have HX := Lib.hid hx
              obtain ⟨ts, hts⟩ : ∃ ts, leftT zs bs n i = ts := ⟨_, rfl⟩
              rw [hts] at M IN LT lle ⊢
              clear q hcb hca hx hts
              go_wp2_with fail
              refine (m7remove OK.out g ts (i : Int) M.out (by unfold InR; omega) (by omega)).mono ?_
              rintro e w4 (⟨h, _, _⟩ | ⟨k, t, hp, ht, rfl, hm⟩)
              · exact absurd h (by have := place_mem IN.out; simp only at this; omega)
              have ti := place_is hp ht
              have OWN := Mine7.own OK.out M.out
              have ER := Lib.hid (show ts.eraseIdx k = leftT zs bs n (i + 1) by rw [erase_place OWN ht, ti]; exact LT.out)
              have LE := Lib.hid (show (ts.eraseIdx k).length = ts.length - 1 from by
                rw [List.length_eraseIdx, if_pos (by rcases Nat.lt_or_ge k ts.length with y | y; exact y; rw [List.getElem?_eq_none y] at ht; cases ht)])
              have tx : t.x = x := by
                have h1 := IN.out
                obtain ⟨j, hj⟩ := List.mem_iff_getElem?.mp h1
                have := place_found (ts := ts) (id := (i : Int)) ht ti (fun s hs => by
                  obtain ⟨l, hl, e⟩ := List.mem_iff_getElem.mp hs
                  rw [List.length_take] at hl
                  rw [List.getElem_take] at e
                  have kl : k < ts.length := by rcases Nat.lt_or_ge k ts.length with y | y; exact y; rw [List.getElem?_eq_none y] at ht; cases ht
                  rw [List.pairwise_iff_getElem] at OWN
                  have := OWN l k (by omega) kl (by omega)
                  rw [List.getElem?_eq_getElem kl] at ht
                  simp at ht
                  rw [e, ht, ti] at this
                  exact this)
                have e : t = ⟨(i : Int), zs.getD i 0⟩ := by
                  have kl : k < ts.length := by rcases Nat.lt_or_ge k ts.length with y | y; exact y; rw [List.getElem?_eq_none y] at ht; cases ht
                  have jl : j < ts.length := by rcases Nat.lt_or_ge j ts.length with y | y; exact y; rw [List.getElem?_eq_none y] at hj; cases hj
                  rw [List.getElem?_eq_getElem kl] at ht
                  rw [List.getElem?_eq_getElem jl] at hj
                  simp at ht hj
                  rw [List.pairwise_iff_getElem] at OWN
                  rcases Nat.lt_trichotomy k j with y | y | y
                  · have := OWN k j kl jl y; rw [ht, hj] at this; exact absurd ti this
                  · subst y; rw [← ht, hj, List.getD_eq_getElem?_getD]
                  · have := OWN j k jl kl y; rw [ht, hj] at this; exact absurd ti.symm this
                rw [e]; exact HX.out
              rw [tx]
              have tpos : 0 < ts.length := List.length_pos_of_mem IN.out
              have M := Lib.hid hm
              have xc := hb_cell hm.below HA.out
              have GN := Lib.hid (show placeT (ts.eraseIdx k) (i : Int) < 0 by rw [erase_place OWN ht, ti]; exact place_gone)
              clear hm tb hp ht ti tx OWN
              go_wp2_with fail
              refine (m7remove OK.out g _ (i : Int) M.out (by unfold InR; omega) (by rw [LE.out]; omega)).mono ?_
              rintro e w5 (⟨_, rfl, hm⟩ | ⟨k', t', hp, _, _, _⟩)
              case inr => exact absurd GN.out (by rw [hp]; omega)
              have M := Lib.hid hm
              have xc := hb_cell hm.below HA.out
              clear hm
              rw [ER.out] at M LE
              go_wp2
              go_roundw
              case rel => exact ⟨i + 1, by go_num, by omega, by omega, by rw [LE.out]; congr 1; omega, M.out⟩
              case measure => simp [intOf]; omega
          · have b5 : decide (i < lb) = false := by simp; omega
            have b6 : decide ((i : Int) < (lb : Int)) = false := by simp; omega
            have GD := Lib.hid (show ∀ s ∈ leftT zs bs n i, ∃ j : Nat, j < n ∧ s = ⟨(j : Int), zs.getD j 0⟩ ∧ (j < lb → bs.getD j false = false) from fun s hs => by
              obtain ⟨j, h1, h2, h3⟩ := leftT_mem hs
              refine ⟨j, h1, h2, fun q => ?_⟩
              cases e : bs.getD j false with
              | false => rfl
              | true => exact absurd ⟨by omega, e⟩ h3)
            obtain ⟨ts0, hts0⟩ : ∃ ts, leftT zs bs n i = ts := ⟨_, rfl⟩
            rw [hts0] at M GD lle ⊢
            clear hts0
            obtain ⟨left, hleft⟩ : ∃ left, ts0.length = left := ⟨_, rfl⟩
            rw [hleft] at lle ⊢
            have HLF := Lib.hid hleft
            clear hleft
            obtain ⟨wb, hwb⟩ : ∃ wb, wb = wr := ⟨_, rfl⟩
            rw [← hwb] at M ⊢
            clear hwb
            go_wp2
            go_loopw [15, 16] (fun v u wr => ∃ (i : Nat) (last : Int) (ts : List Th), u = .int .i64 i ∧ i ≤ left ∧ v = .int .i64 last ∧ ts.length + i = left ∧ (∀ s ∈ ts, s ∈ ts0) ∧ (∀ s ∈ ts, last ≤ m15 s.x) ∧ -1 ≤ last ∧ last ≤ 15 ∧ Mine7 Hp w g ts wr) (fun _ u _ => left - (intOf u).toNat)
            case atStart => exact ⟨0, -1, ts0, rfl, by omega, rfl, HLF.out, fun s h => h, fun s _ => by have := (m15_bd s.x).1; omega, by omega, by omega, M.out⟩
            case round =>
              obtain ⟨l, last, ts, rfl, ll, rfl, hlen, hsub, hlast, l0, l15, hm⟩ := hrel
              clear M
              have M := Lib.hid hm
              have SUB := Lib.hid hsub
              have LAST := Lib.hid hlast
              have HL := Lib.hid hlen
              clear hm hsub hlast
              by_cases d3 : l < left
              · have b7 : decide (l < left) = true := by simp; omega
                have b8 : decide ((l : Int) < (left : Int)) = true := by simp; omega
                go_wp2_with fail
                refine (m7pop OK.out g ts M.out (by omega)).mono ?_
                rintro e w6 (⟨h, _, _⟩ | ⟨k, t, ht, hmin, rfl, hm⟩)
                · rw [h] at hlen; simp at hlen; omega
                have tm := List.mem_of_getElem? ht
                obtain ⟨j, jn, rfl, jf⟩ := GD.out t (SUB.out t tm)
                have lt := LAST.out _ tm
                have AH := Lib.hid (show ∀ s ∈ ts, m15 (zs.getD j 0) ≤ m15 s.x from fun s hs => by
                  obtain ⟨t', ht', ha⟩ := hmin
                  rw [ht] at ht'
                  have ht' := Option.some.inj ht'
                  rw [List.take_of_length_le (Nat.le_refl _)] at ha
                  have := ha s hs
                  rw [← ht'] at this
                  unfold AheadT at this
                  simp only at this
                  omega)
                have LE := Lib.hid (show (ts.eraseIdx k).length = ts.length - 1 from by
                  rw [List.length_eraseIdx, if_pos (by rcases Nat.lt_or_ge k ts.length with y | y; exact y; rw [List.getElem?_eq_none y] at ht; cases ht)])
                have tpos : 0 < ts.length := List.length_pos_of_mem tm
                have bd := m15_bd (zs.getD j 0)
                have M := Lib.hid hm
                have t3 : decide ((j : Int) < 0) = false := decide_eq_false (by omega)
                have t4 : decide ((n : Int) ≤ (j : Int)) = false := decide_eq_false (by omega)
                have t4n : decide (n ≤ j) = false := decide_eq_false (by omega)
                simp only at lt
                obtain ⟨x, hx⟩ : ∃ x, zs.getD j 0 = x := ⟨_, rfl⟩
                rw [hx] at AH bd lt
                simp only
                rw [hx]
                obtain ⟨p, hp⟩ : ∃ p, bits .and .i64 x 15 = p := ⟨_, rfl⟩
                have hp' : m15 x = p := hp
                rw [hp'] at AH bd lt
                have t5 : decide (p < last) = false := decide_eq_false (by omega)
                clear hm hmin ht tm hx hlen
                by_cases d4 : j < lb
                · have t6 : decide ((j : Int) < (lb : Int)) = true := decide_eq_true (by omega)
                  have t6n : decide (j < lb) = true := decide_eq_true d4
                  have jb := jf d4
                  obtain ⟨bb', ob', hab', hcb'⟩ := T.out.at d4
                  subst hab'
                  rw [jb] at hcb'
                  have tb' := hb_cell M.out.below hcb'
                  have j1 : (j : Int) < (lb : Int) := by omega
                  have j2 : 0 ≤ (j : Int) := by omega
                  clear jf jb hcb'
                  go_wp2
                  go_roundw
                  case rel => exact ⟨l + 1, p, ts.eraseIdx k, by go_num, by omega, rfl, by rw [LE.out]; have := HL.out; omega, fun s hs => SUB.out s (mem_erase hs), fun s hs => AH.out s (mem_erase hs), by omega, by omega, M.out⟩
                  case measure => simp [intOf]; omega
                · have t6 : decide ((j : Int) < (lb : Int)) = false := decide_eq_false (by omega)
                  have t6n : decide (j < lb) = false := decide_eq_false d4
                  clear jf
                  go_wp2
                  go_roundw
                  case rel => exact ⟨l + 1, p, ts.eraseIdx k, by go_num, by omega, rfl, by rw [LE.out]; have := HL.out; omega, fun s hs => SUB.out s (mem_erase hs), fun s hs => AH.out s (mem_erase hs), by omega, by omega, M.out⟩
                  case measure => simp [intOf]; omega
              · have b7 : decide (l < left) = false := by simp; omega
                have b8 : decide ((l : Int) < (left : Int)) = false := by simp; omega
                have L0 := Lib.hid (show ts.length = 0 by omega)
                go_wp2_with fail
                refine (m7len OK.out g ts M.out (by omega)).mono ?_
                rintro e w7 ⟨rfl, hm⟩
                rw [L0.out]
                have M := Lib.hid hm
                clear hm
                go_wp2
                go_ret
                exact ⟨rfl, M.out.below⟩
        · have b3 : decide (i < n) = false := by simp; omega
          have b4 : decide ((i : Int) < (n : Int)) = false := by simp; omega
          have GD := Lib.hid (show ∀ s ∈ leftT zs bs n i, ∃ j : Nat, j < n ∧ s = ⟨(j : Int), zs.getD j 0⟩ ∧ (j < lb → bs.getD j false = false) from fun s hs => by
            obtain ⟨j, h1, h2, h3⟩ := leftT_mem hs
            refine ⟨j, h1, h2, fun q => ?_⟩
            cases e : bs.getD j false with
            | false => rfl
            | true => exact absurd ⟨by omega, e⟩ h3)
          obtain ⟨ts0, hts0⟩ : ∃ ts, leftT zs bs n i = ts := ⟨_, rfl⟩
          rw [hts0] at M GD lle ⊢
          clear hts0
          obtain ⟨left, hleft⟩ : ∃ left, ts0.length = left := ⟨_, rfl⟩
          rw [hleft] at lle ⊢
          have HLF := Lib.hid hleft
          clear hleft
          obtain ⟨wb, hwb⟩ : ∃ wb, wb = wr := ⟨_, rfl⟩
          rw [← hwb] at M ⊢
          clear hwb
          go_wp2
          go_loopw [15, 16] (fun v u wr => ∃ (i : Nat) (last : Int) (ts : List Th), u = .int .i64 i ∧ i ≤ left ∧ v = .int .i64 last ∧ ts.length + i = left ∧ (∀ s ∈ ts, s ∈ ts0) ∧ (∀ s ∈ ts, last ≤ m15 s.x) ∧ -1 ≤ last ∧ last ≤ 15 ∧ Mine7 Hp w g ts wr) (fun _ u _ => left - (intOf u).toNat)
          case atStart => exact ⟨0, -1, ts0, rfl, by omega, rfl, HLF.out, fun s h => h, fun s _ => by have := (m15_bd s.x).1; omega, by omega, by omega, M.out⟩
          case round =>
            obtain ⟨l, last, ts, rfl, ll, rfl, hlen, hsub, hlast, l0, l15, hm⟩ := hrel
            clear M
            have M := Lib.hid hm
            have SUB := Lib.hid hsub
            have LAST := Lib.hid hlast
            have HL := Lib.hid hlen
            clear hm hsub hlast
            by_cases d3 : l < left
            · have b7 : decide (l < left) = true := by simp; omega
              have b8 : decide ((l : Int) < (left : Int)) = true := by simp; omega
              go_wp2_with fail
              refine (m7pop OK.out g ts M.out (by omega)).mono ?_
              rintro e w6 (⟨h, _, _⟩ | ⟨k, t, ht, hmin, rfl, hm⟩)
              · rw [h] at hlen; simp at hlen; omega
              have tm := List.mem_of_getElem? ht
              obtain ⟨j, jn, rfl, jf⟩ := GD.out t (SUB.out t tm)
              have lt := LAST.out _ tm
              have AH := Lib.hid (show ∀ s ∈ ts, m15 (zs.getD j 0) ≤ m15 s.x from fun s hs => by
                obtain ⟨t', ht', ha⟩ := hmin
                rw [ht] at ht'
                have ht' := Option.some.inj ht'
                rw [List.take_of_length_le (Nat.le_refl _)] at ha
                have := ha s hs
                rw [← ht'] at this
                unfold AheadT at this
                simp only at this
                omega)
              have LE := Lib.hid (show (ts.eraseIdx k).length = ts.length - 1 from by
                rw [List.length_eraseIdx, if_pos (by rcases Nat.lt_or_ge k ts.length with y | y; exact y; rw [List.getElem?_eq_none y] at ht; cases ht)])
              have tpos : 0 < ts.length := List.length_pos_of_mem tm
              have bd := m15_bd (zs.getD j 0)
              have M := Lib.hid hm
              have t3 : decide ((j : Int) < 0) = false := decide_eq_false (by omega)
              have t4 : decide ((n : Int) ≤ (j : Int)) = false := decide_eq_false (by omega)
              have t4n : decide (n ≤ j) = false := decide_eq_false (by omega)
              simp only at lt
              obtain ⟨x, hx⟩ : ∃ x, zs.getD j 0 = x := ⟨_, rfl⟩
              rw [hx] at AH bd lt
              simp only
              rw [hx]
              obtain ⟨p, hp⟩ : ∃ p, bits .and .i64 x 15 = p := ⟨_, rfl⟩
              have hp' : m15 x = p := hp
              rw [hp'] at AH bd lt
              have t5 : decide (p < last) = false := decide_eq_false (by omega)
              clear hm hmin ht tm hx hlen
              by_cases d4 : j < lb
              · have t6 : decide ((j : Int) < (lb : Int)) = true := decide_eq_true (by omega)
                have t6n : decide (j < lb) = true := decide_eq_true d4
                have jb := jf d4
                obtain ⟨bb', ob', hab', hcb'⟩ := T.out.at d4
                subst hab'
                rw [jb] at hcb'
                have tb' := hb_cell M.out.below hcb'
                have j1 : (j : Int) < (lb : Int) := by omega
                have j2 : 0 ≤ (j : Int) := by omega
                clear jf jb hcb'
                go_wp2
                go_roundw
                case rel => exact ⟨l + 1, p, ts.eraseIdx k, by go_num, by omega, rfl, by rw [LE.out]; have := HL.out; omega, fun s hs => SUB.out s (mem_erase hs), fun s hs => AH.out s (mem_erase hs), by omega, by omega, M.out⟩
                case measure => simp [intOf]; omega
              · have t6 : decide ((j : Int) < (lb : Int)) = false := decide_eq_false (by omega)
                have t6n : decide (j < lb) = false := decide_eq_false d4
                clear jf
                go_wp2
                go_roundw
                case rel => exact ⟨l + 1, p, ts.eraseIdx k, by go_num, by omega, rfl, by rw [LE.out]; have := HL.out; omega, fun s hs => SUB.out s (mem_erase hs), fun s hs => AH.out s (mem_erase hs), by omega, by omega, M.out⟩
                case measure => simp [intOf]; omega
            · have b7 : decide (l < left) = false := by simp; omega
              have b8 : decide ((l : Int) < (left : Int)) = false := by simp; omega
              have L0 := Lib.hid (show ts.length = 0 by omega)
              go_wp2_with fail
              refine (m7len OK.out g ts M.out (by omega)).mono ?_
              rintro e w7 ⟨rfl, hm⟩
              rw [L0.out]
              have M := Lib.hid hm
              clear hm
              go_wp2
              go_ret
              exact ⟨rfl, M.out.below⟩
end Go.Proofs.Ytimafmalfmeehaa
