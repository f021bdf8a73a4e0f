/-
  Package place's fill: contract.
-/
import Derived.Test.YtokmkfoofgiddaaPa6
import Derived.Test.YtokmkfoofgiddaaPa8
namespace Go.Proofs.Ytokmkfoofgiddaa
open Go.RowKit

/-- a row of cores of one's own, and what is taken -/
structure OK1 (B : Nat) (w wr : World) (vo : Value) (out : List Int) (v : Value) (p q : Nat) (m : Int) (tk : List Int) : Prop where
  o : wr.ownsRow B 3 1 vo out.length (out.map (Value.int .i64))
  t : TkAt wr v p q m tk
  nq : vo.ownBlock ≠ some q
  np : vo.ownBlock ≠ some p
  bq : B ≤ q
  bel : Below B w wr
  bw : B ≤ w.heap.size
theorem OK1.below {B : Nat} {w wr w2 : World} {vo v : Value} {out tk : List Int} {p q : Nat} {m : Int} (h : OK1 B w wr vo out v p q m tk) (hb : Below wr.heap.size wr w2) : OK1 B w w2 vo out v p q m tk :=
  ⟨owns_below h.o hb, h.t.below hb, h.nq, h.np, h.bq, h.bel.trans (hb.mono (Nat.le_trans h.bw h.bel.size)), h.bw⟩
theorem OK1.same {B : Nat} {w wr : World} {vo v : Value} {out tk tk' : List Int} {p q : Nat} {m : Int} (h : OK1 B w wr vo out v p q m tk) (hs : SameT tk tk') : OK1 B w wr vo out v p q m tk' :=
  ⟨h.o, h.t.same hs, h.nq, h.np, h.bq, h.bel, h.bw⟩
theorem OK1.took {B : Nat} {w wr w2 : World} {vo v : Value} {out tk tk' : List Int} {p q : Nat} {m : Int} (h : OK1 B w wr vo out v p q m tk) (ht : TkAt w2 v p q m tk') (hk : Keeps (fun k => k = q) wr w2) : OK1 B w w2 vo out v p q m tk' :=
  ⟨owns_keeps h.o hk (fun g e e2 => h.nq (by rw [e, e2])), ht, h.nq, h.np, h.bq, hk.below h.bel (fun k (e : k = q) => by have := h.bq; omega) (Nat.le_trans h.bw h.bel.size), h.bw⟩
theorem OK1.setO {B : Nat} {w wr : World} {g n cap : Nat} {v : Value} {out tk : List Int} {p q : Nat} {m : Int} (h : OK1 B w wr (.slice (some ⟨g, 0, none⟩) n cap) out v p q m tk) (hn : out.length = n) (j : Nat) (c : Int) : OK1 B w (wr.setCell ⟨g, j, none⟩ (.int .i64 c)) (.slice (some ⟨g, 0, none⟩) n cap) (out.set j c) v p q m tk := by
  have h0 := h.o
  rw [hn] at h0
  obtain ⟨s1, _⟩ := h0.stored j (.int .i64 c)
  refine ⟨by rw [List.length_set, hn, List.map_set]; exact s1, h.t.keeps ((Keeps.refl (fun k => k = g) wr).set (.inl rfl) j _) (fun e => h.np (by rw [e]; rfl)) (fun e => h.nq (by rw [e]; rfl)), h.nq, h.np, h.bq, h.bel.setCell (by show B ≤ g; exact (h.o.lt g rfl).1) _, h.bw⟩

set_option maxRecDepth 20000 in
set_option maxHeartbeats 4000000 in
theorem pfill_any (ao : Option Addr) (len co : Nat) (os : List Int) (n : Nat) (B p q : Nat) (tk : List Int) (w : World) (n1 : n ≤ 1024) (hl : os.length = len) (l1 : len ≤ 1024) (hge : ∀ c ∈ os, -1 ≤ c)
    (h : OK1 B w w (.slice ao len co) os (.func (.func 26) #[] #[.pointer (some ⟨p, 0, none⟩), .pointer (some ⟨q, 0, none⟩)]) p q n tk) :
    Calls Try.prog 24 #[.slice ao len co, .int .i64 n, .func (.func 26) #[] #[.pointer (some ⟨p, 0, none⟩), .pointer (some ⟨q, 0, none⟩)]] w fun e w' => e = .returned (.tuple #[]) ∧ w'.ownsRow B 3 1 (.slice ao len co) len ((restR n os tk).map (Value.int .i64)) ∧ Below B w w' := by
  have H := Lib.hid h
  have LO := Lib.hid hl
  have GE := Lib.hid hge
  clear h hl hge
  go_enter Try.func24, Try.ntmps24
  go_wp2_with fail
  go_step3
  go_wp2
  go_step3
  go_wp2
  go_loopw [6, 10] (fun cc u wr => ∃ k c : Nat, u = .int .i64 k ∧ cc = .int .i64 c ∧ k ≤ len ∧ c ≤ n ∧ (∀ d : Nat, d < c → (d : Int) ∈ tkF n os tk k) ∧ OK1 B w wr (.slice ao len co) (outF n os tk k) (.func (.func 26) #[] #[.pointer (some ⟨p, 0, none⟩), .pointer (some ⟨q, 0, none⟩)]) p q n (tkF n os tk k)) (fun _ u _ => len - (intOf u).toNat)
  case atStart => exact ⟨0, 0, rfl, rfl, by omega, by omega, fun d h => by omega, by rw [outF_zero, tkF_zero]; exact H.out⟩
  case round =>
    obtain ⟨k, c, rfl, rfl, k1, cn, hall, ho⟩ := hrel
    have O := Lib.hid ho
    have AL := Lib.hid hall
    clear hall ho
    by_cases go : k < len
    · have b1 : decide ((k : Int) < (len : Int)) = true := by simp; omega
      have b1' : decide (k < len) = true := by simp; omega
      obtain ⟨o, hoo, -⟩ := getI (cs := os) (i := k) (by rw [LO.out]; exact go)
      have FY := Lib.hid (fun c => outF_yes (m := n) (tk := tk) hoo c)
      have FN := Lib.hid (fun c => outF_no (m := n) (tk := tk) hoo c)
      have FA := Lib.hid (outF_at (m := n) (tk := tk) hoo)
      have O1 := Lib.hid (GE.out o (List.mem_of_getElem? hoo))
      have LF := Lib.hid (show (outF n os tk k).length = len by rw [outF_len, LO.out])
      clear hoo
      obtain ⟨out0, hout⟩ : ∃ q, outF n os tk k = q := ⟨_, rfl⟩
      obtain ⟨tk0, htk⟩ : ∃ q, tkF n os tk k = q := ⟨_, rfl⟩
      rw [hout] at O FY FN FA LF
      rw [htk] at O FY FN AL
      clear hout htk
      obtain ⟨g, eg, y0, yf, hcap⟩ := own_some O.out.o FA.out
      subst eg
      rw [LF.out] at hcap
      have i0 : 0 ≤ (k : Int) := by omega
      have i3 : (k : Int) < (len : Int) := by omega
      by_cases o0 : o = -1
      · have b2 : (o != -1) = false := by simp [o0]
        have NX := Lib.hid (FY.out (by omega))
        have FA2 := Lib.hid (show out0[k]? = some (-1) by rw [FA.out, o0])
        go_wp2
        clear b1 b1' b2 y0 yf
        go_loopw [6] (fun cc wx => ∃ c : Nat, cc = .int .i64 c ∧ c ≤ n ∧ (∀ d : Nat, d < c → (d : Int) ∈ tk0) ∧ OK1 B w wx (.slice (some ⟨g, 0, none⟩) len co) out0 (.func (.func 26) #[] #[.pointer (some ⟨p, 0, none⟩), .pointer (some ⟨q, 0, none⟩)]) p q n tk0) (fun u _ => n - (intOf u).toNat)
        case atStart => exact ⟨c, rfl, cn, AL.out, O.out⟩
        case round =>
          obtain ⟨c', rfl, cn', hall, ho⟩ := hrel
          clear O AL
          have O := Lib.hid ho
          have AL := Lib.hid hall
          clear hall ho
          by_cases cm : c' < n
          · have b3 : decide ((c' : Int) < (n : Int)) = true := by simp; omega
            have b3' : decide (c' < n) = true := by simp; omega
            go_wp2_with fail
            refine (ptake_any O.out.t c' (by omega)).mono ?_
            rintro e w4 ⟨rfl, htk4, hk4, hz4⟩
            have HT := Lib.hid htk4
            have HK := Lib.hid hk4
            clear htk4 hk4 hz4
            by_cases ci : (c' : Int) ∈ tk0
            · have tb : takeB n tk0 c' = false := by unfold takeB; simp [ci]
              have HT2 := Lib.hid (show TkAt w4 _ p q n tk0 by have h1 := HT.out; unfold takeL at h1; rw [tb] at h1; exact h1)
              have O2 := Lib.hid (O.out.took HT2.out HK.out)
              have AN := Lib.hid (show ∀ d : Nat, d < c' + 1 → (d : Int) ∈ tk0 from fun d hd => by
                by_cases e : d = c'
                · rw [e]; exact ci
                · exact AL.out d (by omega))
              clear ci HT
              go_wp2
              go_roundw
              case rel => exact ⟨c' + 1, by go_num, by omega, AN.out, O2.out⟩
              case measure => simp [intOf]; omega
            · have tb : takeB n tk0 c' = true := takeB_iff.mpr ⟨by omega, by omega, ci⟩
              have HT2 := Lib.hid (show TkAt w4 _ p q n (tk0 ++ [(c' : Int)]) by have h1 := HT.out; unfold takeL at h1; rw [tb] at h1; exact h1)
              have O2 := Lib.hid (O.out.took HT2.out HK.out)
              have O3 := Lib.hid (O2.out.setO LF.out k c')
              have F1 := Lib.hid (free_here cm AL.out ci)
              obtain ⟨g', eg', y0, yf, _⟩ := own_some O2.out.o FA2.out
              cases eg'
              have NO := Lib.hid (show outF n os tk (k + 1) = out0.set k c' by rw [NX.out.1, F1.out])
              have NT := Lib.hid (show tkF n os tk (k + 1) = tk0 ++ [(c' : Int)] by rw [NX.out.2, F1.out])
              have AN := Lib.hid (show ∀ d : Nat, d < c' → (d : Int) ∈ tk0 ++ [(c' : Int)] from fun d hd => List.mem_append_left _ (AL.out d hd))
              clear ci HT
              go_wp2
              go_roundw
              case rel => exact ⟨k + 1, c', by go_num, rfl, by omega, by omega, by rw [NT.out]; exact AN.out, by rw [NO.out, NT.out]; exact O3.out⟩
              case measure => simp [intOf]; omega
          · have b3 : decide ((c' : Int) < (n : Int)) = false := by simp; omega
            have b3' : decide (c' < n) = false := by simp; omega
            have F1 := Lib.hid (show freeR tk0 n 0 = -1 from free_none (fun d hd => AL.out d (by omega)))
            have NO := Lib.hid (show outF n os tk (k + 1) = out0 by rw [NX.out.1, F1.out]; exact set_same FA2.out)
            have NT := Lib.hid (show SameT tk0 (tkF n os tk (k + 1)) by rw [NX.out.2, F1.out]; exact (SameT.refl _).neg (by omega))
            have AN := Lib.hid (show ∀ d : Nat, d < c' → (d : Int) ∈ tkF n os tk (k + 1) from fun d hd => (NT.out d (by omega)).mp (AL.out d hd))
            go_wp2
            go_roundw
            case rel => exact ⟨k + 1, c', by go_num, rfl, by omega, by omega, AN.out, by rw [NO.out]; exact O.out.same NT.out⟩
            case measure => simp [intOf]; omega
      · have b2 : (o != -1) = true := by simp [o0]
        have NX := Lib.hid (FN.out (by have := O1.out; omega))
        go_wp2
        go_roundw
        case rel => exact ⟨k + 1, c, by go_num, rfl, by omega, by omega, by rw [NX.out.2]; exact AL.out, by rw [NX.out.1, NX.out.2]; exact O.out⟩
        case measure => simp [intOf]; omega
    · have b1 : decide ((k : Int) < (len : Int)) = false := by simp; omega
      have b1' : decide (k < len) = false := by simp; omega
      have ke : k = os.length := by rw [LO.out]; omega
      have OE := Lib.hid (show wr.ownsRow B 3 1 (.slice ao len co) len ((restR n os tk).map (Value.int .i64)) by
        have h1 := O.out.o
        rw [ke, outF_end, rest_len, LO.out] at h1
        exact h1)
      clear ke
      go_wp2
      rw [Exit.noGoto_normal]
      refine bodyPost_end (v := .tuple #[]) (by simp [results, Try.results24, go_sem]) rfl ⟨rfl, OE.out, O.out.bel⟩
end Go.Proofs.Ytokmkfoofgiddaa
