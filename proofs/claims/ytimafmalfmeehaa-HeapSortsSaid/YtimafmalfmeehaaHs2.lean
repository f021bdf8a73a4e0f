/-
  The walk of the law HeapSorts.
-/
import Derived.Test.YtimafmalfmeehaaHs1
namespace Go.Proofs.Ytimafmalfmeehaa
open Go.RowKit Go.Maps

theorem duo_start {w w3 : World} {g h : Nat} {F G : Nat → Prop} (hg : Hp7 w3 g F []) (hh : Hp7 w3 h G []) (ap : Apart F G) (hF : From F w.heap.size) (hG : From G w.heap.size) (hb : Below w.heap.size w w3) (zs : List Int) (n : Nat) :
    Duo w g h w3.heap.size (List.replicate 40 false) (takenT zs n (List.replicate 40 false)) [] (w3.alloc (Obj.cells #[Value.bool false, Value.bool false, Value.bool false, Value.bool false, Value.bool false, Value.bool false, Value.bool false, Value.bool false, Value.bool false, Value.bool false, Value.bool false, Value.bool false, Value.bool false, Value.bool false, Value.bool false, Value.bool false, Value.bool false, Value.bool false, Value.bool false, Value.bool false, Value.bool false, Value.bool false, Value.bool false, Value.bool false, Value.bool false, Value.bool false, Value.bool false, Value.bool false, Value.bool false, Value.bool false, Value.bool false, Value.bool false, Value.bool false, Value.bool false, Value.bool false, Value.bool false, Value.bool false, Value.bool false, Value.bool false, Value.bool false] 47)) := by
  rw [taken_none]
  have bl := wbox w3 (Obj.cells #[Value.bool false, Value.bool false, Value.bool false, Value.bool false, Value.bool false, Value.bool false, Value.bool false, Value.bool false, Value.bool false, Value.bool false, Value.bool false, Value.bool false, Value.bool false, Value.bool false, Value.bool false, Value.bool false, Value.bool false, Value.bool false, Value.bool false, Value.bool false, Value.bool false, Value.bool false, Value.bool false, Value.bool false, Value.bool false, Value.bool false, Value.bool false, Value.bool false, Value.bool false, Value.bool false, Value.bool false, Value.bool false, Value.bool false, Value.bool false, Value.bool false, Value.bool false, Value.bool false, Value.bool false, Value.bool false, Value.bool false] 47)
  exact ⟨F, G, hg.keeps (G := fun _ => False) (Keeps.of bl) (fun _ _ q => q), hh.keeps (G := fun _ => False) (Keeps.of bl) (fun _ _ q => q), ap, hF, hG, Blk.new _ _ _, (fun q => by have := hg.lies _ q; omega), (fun q => by have := hh.lies _ q; omega), below_next hb bl⟩
set_option maxRecDepth 100000 in
set_option maxHeartbeats 8000000 in
theorem sorts_walk (a b : Option Addr) (len cap lo cb : Nat) (zs os : List Int) (w : World) (hz : Row .i64 w a len cap zs) (ho : Row .i64 w b lo cb os) (hlo : lo ≤ 140737488351232) :
    Calls Try.prog 4 #[.slice a len cap, .slice b lo cb] w fun e w' => e = .returned (.bool true) ∧ Below w.heap.size w w' := by
  have Z := Lib.hid hz
  have O := Lib.hid ho
  have zc := hz.cap_le
  have oc := ho.cap_le
  clear hz ho
  go_enter Try.func4, Try.ntmps4
  go_wp2_with fail
  refine (l7awake heapOk _).mono ?_
  rintro e w1 ⟨rfl, hb⟩
  have B1 := Lib.hid hb
  clear hb
  go_wp2_with fail
  refine (hnew_any _).mono ?_
  rintro e w2 ⟨h, G, rfl, hh, hG, hb⟩
  have B2 := Lib.hid (below_next B1.out hb)
  have FG := Lib.hid (show From G w.heap.size from fun k q => Nat.le_trans B1.out.size (hG k q))
  have HH := Lib.hid hh
  clear hb hh hG B1
  go_wp2_with fail
  refine (hnew_any _).mono ?_
  rintro e w3 ⟨g, F, rfl, hg, hF, hb⟩
  have AP := Lib.hid (show Apart F G from fun k q r => by have h1 := hF k q; have h2 := HH.out.lies k r; omega)
  have H3 := Lib.hid (HH.out.keeps (G := fun _ => False) (Keeps.of hb) (fun _ _ q => q))
  have G3 := Lib.hid hg
  have FF := Lib.hid (show From F w.heap.size from fun k q => Nat.le_trans B2.out.size (hF k q))
  have B3 := Lib.hid (below_next B2.out hb)
  clear hb hg hF HH B2
  obtain ⟨n, hn⟩ : ∃ n, n = min len 40 := ⟨_, rfl⟩
  have NE := Lib.hid hn
  have n1 : n ≤ len := by omega
  have n2 : n ≤ 40 := by omega
  have D0 := Lib.hid (duo_start G3.out H3.out AP.out FF.out FG.out B3.out zs n)
  have bxw := B3.out.size
  clear G3 H3 AP FF FG B3
  go_upto_if 37 with fail
  go_cut [8] (fun s8 wx => s8 = .int .i64 n ∧ wx = w3)
  case first =>
    by_cases q : 40 < len
    · have t1 : decide ((40 : Int) < (len : Int)) = true := decide_eq_true (by omega)
      have t2 : decide (40 < len) = true := decide_eq_true q
      have e : (n : Int) = 40 := by omega
      clear hn
      go_wp2_with fail
      go_meet
      exact ⟨by rw [e], rfl⟩
    · have t1 : decide ((40 : Int) < (len : Int)) = false := decide_eq_false (by omega)
      have t2 : decide (40 < len) = false := decide_eq_false q
      have e : n = len := by omega
      clear hn
      go_wp2_with fail
      go_meet
      exact ⟨by rw [e], rfl⟩
  case rest =>
    obtain ⟨rfl, rfl⟩ := hcut
    clear hn
    go_wp2_with fail
    have lo0 : 0 ≤ (lo : Int) := by omega
    have lo1 : (lo : Int) ≤ 140737488351232 := by omega
    have nn0 : 0 ≤ (n : Int) := by omega
    have nn1 : (n : Int) ≤ 40 := by omega
    go_loopw [10] (fun u wr => ∃ (i : Nat) (us : List Bool), u = .int .i64 i ∧ i ≤ lo + n ∧ us.length = 40 ∧ (∀ j, j < n → lo + j < i → us.getD j false = true) ∧ Duo w g h wc.heap.size us (takenT zs n us) [] wr) (fun u _ => lo + n - (intOf u).toNat)
    case atStart => exact ⟨0, List.replicate 40 false, rfl, by omega, by simp, (fun j _ hj => by omega), D0.out⟩
    case round =>
      obtain ⟨i, us, rfl, il, hul, hus, hd⟩ := hrel
      have UL := Lib.hid hul
      have US := Lib.hid hus
      have D := Lib.hid hd
      clear hul hus hd D0
      by_cases go : i < lo + n
      · have b1 : decide ((i : Int) < (lo : Int) + (n : Int)) = true := decide_eq_true (by omega)
        have i0 : 0 ≤ (i : Int) := by omega
        have i1 : (i : Int) ≤ 140737488351300 := by omega
        by_cases gl : i < lo
        · have b2 : decide ((i : Int) < (lo : Int)) = true := decide_eq_true (by omega)
          have b3 : decide (i < lo) = true := decide_eq_true gl
          obtain ⟨bo, oo, hbo, hco⟩ := O.out.cell gl
          subst hbo
          obtain ⟨x, hx⟩ : ∃ x, os.getD i 0 = x := ⟨_, rfl⟩
          rw [hx] at hco
          have xc := hb_cell D.out.below hco
          have j1 : (i : Int) < (lo : Int) := by omega
          clear hco hx
          by_cases n0 : 0 < n
          · have b4 : decide ((0 : Int) < (n : Int)) = true := decide_eq_true (by omega)
            have b5 : decide (0 < n) = true := decide_eq_true n0
            have nz : ¬ (n : Int) = 0 := by omega
            have hm1 := Int.emod_nonneg (x.tmod (n : Int)) (show (n : Int) ≠ 0 by omega)
            have hm2 := Int.emod_lt_of_pos (x.tmod (n : Int)) (show (0 : Int) < (n : Int) by omega)
            have r1 := Int.tmod_lt_of_pos x (show (0 : Int) < (n : Int) by omega)
            have r2 := Int.lt_tmod_of_pos x (show (0 : Int) < (n : Int) by omega)
            obtain ⟨k, hk⟩ : ∃ k : Nat, x.tmod (n : Int) % (n : Int) = (k : Int) := ⟨(x.tmod (n : Int) % (n : Int)).toNat, by omega⟩
            have hkn : k < n := by omega
            clear hm1 hm2
            have KE := Lib.hid hk
            have k0 : 0 ≤ (k : Int) := by omega
            have k40 : (k : Int) < 40 := by omega
            have t5 : decide (0 ≤ (k : Int)) = true := decide_eq_true k0
            obtain ⟨ux, hux⟩ : ∃ ux, us.getD k false = ux := ⟨_, rfl⟩
            have UX := Lib.hid hux
            have uc : wr.cell? ⟨wc.heap.size, k, none⟩ = some (.bool ux) := by
              rw [D.out.box.cell k]
              simp only [List.getElem?_toArray, List.getElem?_map]
              rw [← hux, List.getD_eq_getElem?_getD, List.getElem?_eq_getElem (by rw [UL.out]; omega)]
              rfl
            clear hux
            cases ux with
            | true =>
              have NX := Lib.hid (show ∀ j, j < n → lo + j < i + 1 → us.getD j false = true from fun j hj hji => by
                by_cases e : lo + j = i
                · exact (by omega)
                · exact US.out j hj (by omega))
              go_wp2
              go_roundw
              case rel => exact ⟨i + 1, us, by go_num, by omega, UL.out, NX.out, D.out⟩
              case measure => simp [intOf]; omega
            | false =>
              have TP := Lib.hid ((taken_set zs us k (by rw [UL.out]; omega) UX.out n).1 hkn)
              have TN := Lib.hid (taken_new zs n us k UX.out)
              have TL := Lib.hid (taken_len zs n us)
              have NX := Lib.hid (show ∀ j, j < n → lo + j < i + 1 → (us.set k true).getD j false = true from fun j hj hji => by
                rw [List.getD_eq_getElem?_getD, List.getElem?_set]
                by_cases e : k = j
                · rw [if_pos e, if_pos (by rw [UL.out]; omega)]; rfl
                · rw [if_neg e, ← List.getD_eq_getElem?_getD]
                  exact US.out j hj (by omega))
              have uf : wr.frozen? ⟨wc.heap.size, k, none⟩ = false := D.out.box.free k
              obtain ⟨ba, oa, hba, hca⟩ := Z.out.cell (show k < len by omega)
              subst hba
              obtain ⟨y, hy⟩ : ∃ y, zs.getD k 0 = y := ⟨_, rfl⟩
              rw [hy] at hca TP
              obtain ⟨W5, hW5⟩ : ∃ W5, wr.setCell ⟨wc.heap.size, k, none⟩ (.bool true) = W5 := ⟨_, rfl⟩
              have D5 := Lib.hid (show Duo w g h wc.heap.size (us.set k true) (takenT zs n us) [] W5 by rw [← hW5]; exact D.out.mark bxw k)
              have yc := hb_cell D5.out.below hca
              have kl1 : (k : Int) < (len : Int) := by omega
              clear hca hy
              go_wp2_with fail
              refine (dpushG g h _ _ _ _ (k : Int) y D5.out (by unfold InR; omega) (by have := TL.out; omega) TN.out).mono ?_
              rintro e w6 ⟨rfl, hd6⟩
              have D6 := Lib.hid (hd6.permG TP.out)
              clear hd6 yc uc uf hW5
              go_wp2
              go_roundw
              case rel => exact ⟨i + 1, us.set k true, by go_num, by omega, by rw [List.length_set]; exact UL.out, NX.out, D6.out⟩
              case measure => simp [intOf]; omega
          · have b4 : decide ((0 : Int) < (n : Int)) = false := decide_eq_false (by omega)
            have b5 : decide (0 < n) = false := decide_eq_false n0
            have b6 : decide (0 ≤ (i : Int) - (lo : Int)) = false := decide_eq_false (by omega)
            have b7 : decide ((lo : Int) ≤ (i : Int)) = false := decide_eq_false (by omega)
            go_wp2
            go_roundw
            case rel => exact ⟨i + 1, us, by go_num, by omega, UL.out, (fun j hj hji => by omega), D.out⟩
            case measure => simp [intOf]; omega
        · have b2 : decide ((i : Int) < (lo : Int)) = false := decide_eq_false (by omega)
          have b3 : decide (i < lo) = false := decide_eq_false gl
          obtain ⟨k, hk⟩ : ∃ k : Nat, (i : Int) - (lo : Int) = (k : Int) := ⟨i - lo, by omega⟩
          have hkn : k < n := by omega
          have KE := Lib.hid hk
          have k0 : 0 ≤ (k : Int) := by omega
          have k40 : (k : Int) < 40 := by omega
          have t5 : decide (0 ≤ (k : Int)) = true := decide_eq_true k0
          obtain ⟨ux, hux⟩ : ∃ ux, us.getD k false = ux := ⟨_, rfl⟩
          have UX := Lib.hid hux
          have uc : wr.cell? ⟨wc.heap.size, k, none⟩ = some (.bool ux) := by
            rw [D.out.box.cell k]
            simp only [List.getElem?_toArray, List.getElem?_map]
            rw [← hux, List.getD_eq_getElem?_getD, List.getElem?_eq_getElem (by rw [UL.out]; omega)]
            rfl
          clear hux
          cases ux with
          | true =>
            have NX := Lib.hid (show ∀ j, j < n → lo + j < i + 1 → us.getD j false = true from fun j hj hji => by
              by_cases e : lo + j = i
              · exact (by have := UX.out; rw [show j = k by have := KE.out; omega]; exact this)
              · exact US.out j hj (by omega))
            go_wp2
            go_roundw
            case rel => exact ⟨i + 1, us, by go_num, by omega, UL.out, NX.out, D.out⟩
            case measure => simp [intOf]; omega
          | false =>
            have TP := Lib.hid ((taken_set zs us k (by rw [UL.out]; omega) UX.out n).1 hkn)
            have TN := Lib.hid (taken_new zs n us k UX.out)
            have TL := Lib.hid (taken_len zs n us)
            have NX := Lib.hid (show ∀ j, j < n → lo + j < i + 1 → (us.set k true).getD j false = true from fun j hj hji => by
              rw [List.getD_eq_getElem?_getD, List.getElem?_set]
              by_cases e : k = j
              · rw [if_pos e, if_pos (by rw [UL.out]; omega)]; rfl
              · rw [if_neg e, ← List.getD_eq_getElem?_getD]
                exact US.out j hj (by have := KE.out; omega))
            have uf : wr.frozen? ⟨wc.heap.size, k, none⟩ = false := D.out.box.free k
            obtain ⟨ba, oa, hba, hca⟩ := Z.out.cell (show k < len by omega)
            subst hba
            obtain ⟨y, hy⟩ : ∃ y, zs.getD k 0 = y := ⟨_, rfl⟩
            rw [hy] at hca TP
            obtain ⟨W5, hW5⟩ : ∃ W5, wr.setCell ⟨wc.heap.size, k, none⟩ (.bool true) = W5 := ⟨_, rfl⟩
            have D5 := Lib.hid (show Duo w g h wc.heap.size (us.set k true) (takenT zs n us) [] W5 by rw [← hW5]; exact D.out.mark bxw k)
            have yc := hb_cell D5.out.below hca
            have kl1 : (k : Int) < (len : Int) := by omega
            clear hca hy
            go_wp2_with fail
            refine (dpushG g h _ _ _ _ (k : Int) y D5.out (by unfold InR; omega) (by have := TL.out; omega) TN.out).mono ?_
            rintro e w6 ⟨rfl, hd6⟩
            have D6 := Lib.hid (hd6.permG TP.out)
            clear hd6 yc uc uf hW5
            go_wp2
            go_roundw
            case rel => exact ⟨i + 1, us.set k true, by go_num, by omega, by rw [List.length_set]; exact UL.out, NX.out, D6.out⟩
            case measure => simp [intOf]; omega
      · have b1 : decide ((i : Int) < (lo : Int) + (n : Int)) = false := decide_eq_false (by omega)
        have GT := Lib.hid (taken_all zs n us (fun j hj => US.out j hj (by omega)))
        rw [GT.out] at D
        obtain ⟨wb, hwb⟩ : ∃ wb, wb = wr := ⟨_, rfl⟩
        rw [← hwb] at D ⊢
        clear hwb GT US UL
        go_wp2
        go_loopw [12] (fun u wr => ∃ i : Nat, u = .int .i64 i ∧ i ≤ n ∧ Duo w g h wc.heap.size us (numT zs n) (numT zs i) wr) (fun u _ => n - (intOf u).toNat)
        case atStart => exact ⟨0, rfl, by omega, D.out⟩
        case round =>
          obtain ⟨i, rfl, il, hd⟩ := hrel
          clear D
          have D := Lib.hid hd
          clear hd
          by_cases gi : i < n
          · have c1 : decide ((i : Int) < (n : Int)) = true := decide_eq_true (by omega)
            have c2 : decide (i < n) = true := decide_eq_true gi
            obtain ⟨ba, oa, hba, hca⟩ := Z.out.cell (show i < len by omega)
            subst hba
            obtain ⟨y, hy⟩ : ∃ y, zs.getD i 0 = y := ⟨_, rfl⟩
            rw [hy] at hca
            have yc := hb_cell D.out.below hca
            have NS := Lib.hid (show numT zs (i + 1) = numT zs i ++ [⟨(i : Int), y⟩] by rw [numT_snoc, hy])
            have kl1 : (i : Int) < (len : Int) := by omega
            have kl0 : 0 ≤ (i : Int) := by omega
            clear hca hy
            go_wp2_with fail
            refine (dpushH g h _ _ _ _ (i : Int) y D.out (by unfold InR; omega) (by rw [numT_len]; omega) (by rw [numT_new]; omega)).mono ?_
            rintro e w6 ⟨rfl, hd6⟩
            rw [← NS.out] at hd6
            have D6 := Lib.hid hd6
            clear hd6 yc
            go_wp2_with fail
            refine (dagainH g h _ _ _ _ (i : Int) 0 D6.out (by unfold InR; omega) (by rw [numT_len]; omega) (by rw [numT_place zs (i + 1) i (by omega)]; omega)).mono ?_
            rintro e w7 ⟨rfl, hd7⟩
            have D7 := Lib.hid hd7
            clear hd7
            go_wp2
            go_roundw
            case rel => exact ⟨i + 1, by go_num, by omega, D7.out⟩
            case measure => simp [intOf]; omega
          · have c1 : decide ((i : Int) < (n : Int)) = false := decide_eq_false (by omega)
            have c2 : decide (i < n) = false := decide_eq_false gi
            obtain rfl : n = i := by omega
            obtain ⟨wd, hwd⟩ : ∃ wd, wd = wr := ⟨_, rfl⟩
            rw [← hwd] at D ⊢
            clear hwd
            go_wp2
            go_loopw [15, 13, 14] (fun v u s wr => ∃ (i : Nat) (last at' : Int) (ts : List Th), v = .int .i64 i ∧ i ≤ n ∧ u = .int .i64 last ∧ s = .int .i64 at' ∧ ts.length + i = n ∧ (∀ t ∈ ts, t ∈ numT zs n) ∧ (∀ t ∈ ts, last < m15 t.x ∨ (last = m15 t.x ∧ at' < t.id)) ∧ -1 ≤ last ∧ last ≤ 15 ∧ Duo w g h wc.heap.size us ts ts wr) (fun v _ _ _ => n - (intOf v).toNat)
            case atStart => exact ⟨0, -1, -1, numT zs n, rfl, by omega, rfl, rfl, by rw [numT_len]; omega, (fun t h => h), (fun t _ => by have := (m15_bd t.x).1; omega), by omega, by omega, D.out⟩
            case round =>
              obtain ⟨i, last, at', ts, rfl, il, rfl, rfl, hlen, hsub, hlast, l0, l15, hd⟩ := hrel
              clear D
              have D := Lib.hid hd
              have SUB := Lib.hid hsub
              have LAST := Lib.hid hlast
              clear hd hsub hlast
              by_cases gi : i < n
              · have c1 : decide ((i : Int) < (n : Int)) = true := decide_eq_true (by omega)
                have c2 : decide (i < n) = true := decide_eq_true gi
                go_wp2_with fail
                refine (dpopH g h _ _ _ _ D.out).mono ?_
                rintro e w6 (⟨h0, _, _⟩ | ⟨k, t, ht, hmin, rfl, hd6⟩)
                · rw [h0] at hlen; simp at hlen; omega
                have D6 := Lib.hid hd6
                clear hd6
                go_wp2_with fail
                refine (dpopG g h _ _ _ _ D6.out).mono ?_
                rintro e w7 (⟨h0, _, _⟩ | ⟨k', t', ht', hmin', rfl, hd7⟩)
                · rw [h0] at hlen; simp at hlen; omega
                obtain rfl : t = t' := min_one D.out.own ht ht' hmin hmin'
                obtain rfl : k = k' := own_same D.out.own ht ht' rfl
                have OT := Lib.hid D.out.own
                have D7 := Lib.hid hd7
                clear hd7 ht' hmin' D6 D
                have tm := List.mem_of_getElem? ht
                obtain ⟨j, jn, rfl⟩ := numT_mem (SUB.out t tm)
                have lt := LAST.out _ tm
                have ER := Lib.hid (show ∀ s ∈ ts.eraseIdx k, s ∈ ts from fun s hs => mem_erase hs)
                have AH := Lib.hid (show ∀ s ∈ ts.eraseIdx k, m15 (zs.getD j 0) < m15 s.x ∨ (m15 (zs.getD j 0) = m15 s.x ∧ (j : Int) < s.id) from fun s hs => by
                  obtain ⟨t', ht', ha⟩ := hmin
                  rw [ht] at ht'
                  have ht' := Option.some.inj ht'
                  rw [List.take_of_length_le (Nat.le_refl _)] at ha
                  have h1 := ha s (ER.out s hs)
                  rw [← ht'] at h1
                  have h2 := (erase_perm ts k _ ht).symm
                  have h3 := OT.out.perm h2
                  have h4 := (List.pairwise_cons.mp h3).1 s hs
                  unfold AheadT at h1
                  simp only at h1 h4
                  omega)
                have LE := Lib.hid (show (ts.eraseIdx k).length = ts.length - 1 from by
                  rw [List.length_eraseIdx, if_pos (lt_at ht)])
                have tpos : 0 < ts.length := List.length_pos_of_mem tm
                have bd := m15_bd (zs.getD j 0)
                obtain ⟨ba, oa, hba, hca⟩ := Z.out.cell (show j < len by omega)
                subst hba
                simp only at lt
                obtain ⟨x, hx⟩ : ∃ x, zs.getD j 0 = x := ⟨_, rfl⟩
                rw [hx] at AH bd lt hca
                simp only
                rw [hx]
                have xc := hb_cell D7.out.below hca
                obtain ⟨p, hp⟩ : ∃ p, bits .and .i64 x 15 = p := ⟨_, rfl⟩
                have hp' : m15 x = p := hp
                rw [hp'] at AH bd lt
                have t3 : decide ((j : Int) < 0) = false := decide_eq_false (by omega)
                have t4 : decide ((n : Int) ≤ (j : Int)) = false := decide_eq_false (by omega)
                have t4n : decide (n ≤ j) = false := decide_eq_false (by omega)
                have t5 : decide (p < last) = false := decide_eq_false (by omega)
                have j1 : (j : Int) < (len : Int) := by omega
                have j2 : 0 ≤ (j : Int) := by omega
                clear hmin ht tm hx hca
                by_cases q : p = last
                · have t6 : (p == last) = true := by simp [q]
                  have t7 : decide ((j : Int) ≤ at') = false := decide_eq_false (by omega)
                  have PQ := Lib.hid q
                  clear q
                  go_wp2
                  go_roundw
                  case rel => exact ⟨i + 1, p, j, ts.eraseIdx k, by go_num, by omega, rfl, rfl, by rw [LE.out]; omega, (fun s hs => SUB.out s (ER.out s hs)), AH.out, by omega, by omega, D7.out⟩
                  case measure => simp [intOf]; omega
                · have t6 : (p == last) = false := by simp [q]
                  have PQ := Lib.hid q
                  clear q
                  go_wp2
                  go_roundw
                  case rel => exact ⟨i + 1, p, j, ts.eraseIdx k, by go_num, by omega, rfl, rfl, by rw [LE.out]; omega, (fun s hs => SUB.out s (ER.out s hs)), AH.out, by omega, by omega, D7.out⟩
                  case measure => simp [intOf]; omega
              · have c1 : decide ((i : Int) < (n : Int)) = false := decide_eq_false (by omega)
                have c2 : decide (i < n) = false := decide_eq_false gi
                obtain rfl : ts = [] := List.length_eq_zero_iff.mp (by omega)
                go_wp2_with fail
                refine (dpopH g h _ _ _ _ D.out).mono ?_
                rintro e w6 (⟨_, rfl, hd6⟩ | ⟨k, t, ht, _⟩)
                · have D6 := Lib.hid hd6
                  clear hd6 D
                  go_wp2_with fail
                  refine (dlenH g h _ _ _ _ D6.out).mono ?_
                  rintro e w7 ⟨rfl, hd7⟩
                  have D7 := Lib.hid hd7
                  clear hd7 D6
                  go_wp2_with fail
                  refine (dlenG g h _ _ _ _ D7.out).mono ?_
                  rintro e w8 ⟨rfl, hd8⟩
                  have D8 := Lib.hid hd8
                  clear hd8 D7
                  go_wp2
                  go_ret
                  exact ⟨rfl, D8.out.below⟩
                · simp at ht
end Go.Proofs.Ytimafmalfmeehaa
