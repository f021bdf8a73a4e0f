/-
  Package task as landed: Arrive: contract.
-/
import Derived.Test.YthaoijmjkmgebaaTq6
import Derived.Test.YthaoijmjkmgebaaTr3
import Derived.Deep.RegionLaw
namespace Go.Proofs.Ythaoijmjkmgebaa
open Go.RowKit

theorem Late.drew {W : World} {bA bS sb : Nat} {at_ : Int} (h : Late W bA bS sb at_) : Late W.drew bA bS sb at_ := h.below (Below.refl _ _).drew
theorem Late.lt {W : World} {bA bS sb : Nat} {at_ : Int} (h : Late W bA bS sb at_) : bA < W.heap.size ∧ bS < W.heap.size := ⟨h.a.lt, h.s.lt⟩
theorem que_but {W W' : World} {sb : Nat} {v : Value} {l : List Sb} (h : QueS W v l) (hb : But sb W W') (hn : v.ownBlock ≠ some sb) : QueS W' v l :=
  QueR.carry h (fun g hg => hb.block g (QueR.lt h g hg).2 (fun e => hn (by rw [hg, e])))
theorem Keeps.but {F : Nat → Prop} {a b c : World} {g : Nat} (h : Keeps F a b) (k : But g b c) (hg : F g ∨ a.heap.size ≤ g) : Keeps F a c :=
  ⟨k.os.trans h.os, k.tape.trans h.tape, k.output.trans h.output, Nat.le_trans h.size k.size, fun x hx hf => (k.block x (Nat.lt_of_lt_of_le hx h.size) (fun e => by rcases hg with q | q; exact hf (e ▸ q); omega)).trans (h.block x hx hf)⟩
/-- in the loop: the task, the closure's blocks -/
structure TkL (W : World) (g sb bA bS : Nat) (v : Value) (t : TS) (at_ : Int) : Prop where
  tk : TkAt W g sb v t
  late : Late W bA bS sb at_
  nA : v.ownBlock ≠ some bA
  nS : v.ownBlock ≠ some bS
  gA : g ≠ bA
  gS : g ≠ bS
set_option maxRecDepth 20000 in
set_option maxHeartbeats 8000000 in
theorem tarrive_yes (g : Nat) (F : Nat → Prop) (t : TS) (at_ n : Int) (w : World) (h : HpT w g F t) (hcm : t.came ≤ 100000) (ha : ArrOk at_ n) (hc : t.cut = false) (hl : (t.l.length : Int) + n ≤ 64) : Calls Try.prog 19 #[.pointer (some ⟨g, 0, none⟩), .int .i64 at_, .int .i64 n] w fun z w' => z = .returned (.int .i64 0) ∧ StaysT HpT w g F (comeN at_ n.toNat t) w' := by
  obtain ⟨a0, a1, n0, n1⟩ := ha
  have HS := Lib.hid (show true = decide (0 ≤ at_ ∧ at_ ≤ 1099511627776) from (decide_eq_true ⟨a0, a1⟩).symm)
  have t1 : decide (n < 1) = false := decide_eq_false (by omega)
  have t2 : decide (64 < n) = false := decide_eq_false (by omega)
  have LI := Lib.hid (h := h.lies)
  have GG := Lib.hid (h := h.good)
  have few := h.good.few
  obtain ⟨sb, v, hk, hF⟩ := h
  obtain ⟨a, cap, rfl, _, _⟩ := hk.que.val
  obtain ⟨ln, hln⟩ : ∃ ln, t.l.length = ln := ⟨_, rfl⟩
  have c11 := hk.box.cell 11
  simp [tkC, hc] at c11
  have c4 := hk.box.cell 4
  simp only [tkC, hln] at c4
  change _ = some (Value.slice a ln cap) at c4
  have c3 := hk.box.cell 3
  simp only [tkC] at c3
  change _ = some (Value.pointer (some ⟨sb, 0, none⟩)) at c3
  have HL := Lib.hid hl
  rw [hln] at few hl
  have wl : IntKind.i64.wrap ((ln : Int) + n) = (ln : Int) + n := IntWalk.i64_in _ (by omega)
  have t5 : decide (64 < (ln : Int) + n) = false := decide_eq_false (by omega)
  have HK := Lib.hid hk
  have HF := Lib.hid hF
  have CM := Lib.hid hcm
  clear hk hc hln few hl hF hcm
  go_enter Try.func19, Try.ntmps19
  go_wp2_with fail
  refine (tslot_any at_ _ true HS.out).mono ?_
  rintro e w1 ⟨rfl, rfl⟩
  go_wp2_with fail
  refine (tarrivals_any sb at_ _ HK.out.stp.lt).mono ?_
  rintro e w2 ⟨rfl, hlate, hb⟩
  have K2 := Lib.hid (show TkL w2 g sb (w.heap.size + 1) w.heap.size (.slice a t.l.length cap) t at_ from ⟨HK.out.keeps (F := fun _ => False) (Keeps.of hb) id id (fun _ _ => id), hlate, fun e => by have := (QueR.lt HK.out.que _ e).2; omega, fun e => by have := (QueR.lt HK.out.que _ e).2; omega, by have := HK.out.box.lt; omega, by have := HK.out.box.lt; omega⟩)
  have M2 := Lib.hid (show Moves F F w w2 from Moves.of hb LI.out)
  clear hlate hb c3 c4 c11
  go_wp2
  go_loopw [45] (fun i wr => ∃ (k : Nat) (v : Value), i = .int .i64 (k : Int) ∧ (k : Int) ≤ n ∧ TkL wr g sb (w.heap.size + 1) w.heap.size v (comeN at_ k t) at_ ∧ Moves F (fun x => x = g ∨ x = sb ∨ v.ownBlock = some x) w wr) (fun i _ => n.toNat - (intOf i).toNat)
  case atStart => exact ⟨0, .slice a t.l.length cap, rfl, by omega, K2.out, by
    have e : (fun x => x = g ∨ x = sb ∨ (Value.slice a t.l.length cap).ownBlock = some x) = F := funext fun x => propext (HF.out x).symm
    rw [e]; exact M2.out⟩
  case round =>
    obtain ⟨k, v, rfl, hk, hkl, hmv⟩ := hrel
    clear K2 M2
    by_cases hlt : (k : Int) < n
    · have d : decide ((k : Int) < n) = true := decide_eq_true hlt
      have wk : IntKind.i64.wrap ((k : Int) + 1) = (k : Int) + 1 := IntWalk.i64_in _ (by omega)
      have CK := Lib.hid (comeN_came at_ k t)
      have LK := Lib.hid (comeN_len at_ k t)
      have NX := Lib.hid (comeN_succ at_ k t)
      have MV := Lib.hid hmv
      obtain ⟨u, hu⟩ : ∃ u, comeN at_ k t = u := ⟨_, rfl⟩
      rw [hu] at hkl CK LK NX
      clear hmv hu
      have GU := Lib.hid hkl.tk.good
      have cb := Lib.hid (show 0 ≤ u.came ∧ u.came ≤ 1000000 by have := GU.out.came0; have := CK.out; have := CM.out; omega)
      have lu64 := Lib.hid (show u.l.length + 1 ≤ 64 by have := LK.out; have := HL.out; omega)
      obtain ⟨av, cv, rfl, lc1, lc2⟩ := hkl.tk.que.val
      obtain ⟨lu, hlu⟩ : ∃ lu, u.l.length = lu := ⟨_, rfl⟩
      have HLU := Lib.hid hlu
      obtain ⟨s, hs⟩ : ∃ s, ofV u.E u.P (u.came + 1) (lateO u at_) = s := ⟨_, rfl⟩
      have SS := Lib.hid hs
      have H := Lib.hid hkl
      have c4 := hkl.tk.box.cell 4
      have f4 := hkl.tk.box.free 4
      simp only [tkC, hlu] at c4
      change _ = some (Value.slice av lu cv) at c4
      obtain ⟨i0, hi, hz0, hz1, hz2⟩ := info_parts Try.infoS
      have FB := Lib.hid (show lu + 1 ≤ maxLen ∧ (lu + 1) * 40 ≤ 140737488355328 by have := lu64.out; rw [hlu] at this; unfold maxLen; omega)
      have lb := hkl.late.lt
      clear hkl hlu hs
      go_upto_region 10 with fail
      go_region_law (first
        | (refine step_append_que (w := (w5.alloc (Obj.cells #[.int .i64 s.I, .int .i64 s.R, .int .i64 s.D, .int .i64 s.B, .int .i64 s.G] 35))) rfl _ _ 44 rfl 0 35 i0 sub0.v 5 40 Try.underlying44 hi hz0 hz1 hz2 rfl (by decide) (.slice av lu cv) lu (u.l.map Sb.cs).flatten rfl QB2.out ⟨w5.heap.size, 0, none⟩ 1 1 s.cs rfl rfl (by omega) NB2.out (oneS s) FB.out.1 FB.out.2 (Nat.zero_le _) ?_; intro g2 o2 cp2 w2 hq2 hg2 hor; have G2 := Lib.hid hg2; have Q2 := Lib.hid hq2; have OR := Lib.hid hor; have R2 := Lib.hid (show Blk w2 66 g (tkC u sb (.slice av u.l.length cv)) from (hg2.block g LR2.out (fun e => H.out.tk.nv (by rw [HLU.out]; exact e.symm))).trans RB2.out); have c4b := R2.out.cell 4; have f4b := R2.out.free 4; simp only [tkC, HLU.out] at c4b; change _ = some (Value.slice av lu cv) at c4b; clear hq2 hg2 hor)
        | (go_simp; go_at_call 42; refine (tlate_any u.E u.P u.O u.came at_ (w.heap.size + 1) w.heap.size sb _ H.out.late.drew H.out.tk.stp GU.out.may cb.out.1 cb.out.2 GU.out.O0 GU.out.O1 a0 a1 s SS.out).mono ?_; rintro e w5 ⟨rfl, hst, hbut⟩; dsimp only; have S5 := Lib.hid hst; have K5 := Lib.hid hbut; have R5 := Lib.hid (show Blk w5 66 g (tkC u sb (.slice av u.l.length cv)) from H.out.tk.box.drew.but hbut H.out.tk.ns); have QB2 := Lib.hid (show QueR (w5.alloc (Obj.cells #[.int .i64 s.I, .int .i64 s.R, .int .i64 s.D, .int .i64 s.B, .int .i64 s.G] 35)) 0 35 5 (.slice av lu cv) lu (u.l.map Sb.cs).flatten from QueR.below (by have := que_but (W := wr.drew) H.out.tk.que hbut H.out.tk.nvs; unfold QueS at this; rw [HLU.out] at this; exact this) (wbox _ _)); have NB2 := Lib.hid (show ∀ j x, s.cs[j]? = some x → World.cell? (w5.alloc (Obj.cells #[.int .i64 s.I, .int .i64 s.R, .int .i64 s.D, .int .i64 s.B, .int .i64 s.G] 35)) ((⟨w5.heap.size, 0, none⟩ : Addr).add j) = some x from World.news_of_block (cs := #[.int .i64 s.I, .int .i64 s.R, .int .i64 s.D, .int .i64 s.B, .int .i64 s.G]) (t := 35) (fr := (0, 0)) (Blk.new w5 35 _)); have RB2 := Lib.hid (R5.out.alloc (Obj.cells #[.int .i64 s.I, .int .i64 s.R, .int .i64 s.D, .int .i64 s.B, .int .i64 s.G] 35)); have LR2 := Lib.hid RB2.out.lt; have c4a := R5.out.cell 4; have f4a := R5.out.free 4; simp only [tkC, HLU.out] at c4a; change _ = some (Value.slice av lu cv) at c4a; have c4c := RB2.out.cell 4; simp only [tkC, HLU.out] at c4c; change _ = some (Value.slice av lu cv) at c4c; clear hst hbut))
      all_goals
        obtain ⟨W6, hW6⟩ : ∃ W6, w2.setCell ⟨g, 4, none⟩ (.slice (some ⟨g2, o2, none⟩) (lu + 1) cp2) = W6 := ⟨_, rfl⟩
        have EA := Lib.hid (show (Value.slice av u.l.length cv).ownBlock = (Value.slice av lu cv).ownBlock by rw [HLU.out])
        have SZ5 := Lib.hid (show wr.heap.size ≤ w5.heap.size from K5.out.size)
        have LTS := Lib.hid (show g < wr.heap.size ∧ sb < wr.heap.size ∧ w.heap.size + 1 < wr.heap.size from ⟨H.out.tk.box.lt, H.out.tk.stp.lt, H.out.late.a.lt⟩)
        have ORS := Lib.hid (show (Value.slice av lu cv).ownBlock = some g2 ∨ wr.heap.size ≤ g2 from OR.out.imp id (fun q => by have := SZ5.out; simp at q; omega))
        have NE := Lib.hid (show g2 ≠ g ∧ g2 ≠ sb ∧ g2 ≠ w.heap.size + 1 ∧ g2 ≠ w.heap.size by
          have l := LTS.out
          rcases ORS.out with q | q
          · rw [← EA.out] at q
            exact ⟨fun e => H.out.tk.nv (by rw [q, e]), fun e => H.out.tk.nvs (by rw [q, e]), fun e => H.out.nA (by rw [q, e]), fun e => H.out.nS (by rw [q, e])⟩
          · exact ⟨by omega, by omega, by omega, by omega⟩)
        have B6 := Lib.hid (show ∀ x, x < w5.heap.size → x ≠ g → (Value.slice av lu cv).ownBlock ≠ some x → W6.heap[x]? = w5.heap[x]? from fun x h1 h2 h3 => by
          rw [← hW6, Below.heap_setCell _ (⟨g, 4, none⟩ : Addr) _ x h2, G2.out.block x (by simp; omega) (fun e => h3 e.symm)]
          exact (wbox w5 (Obj.cells #[.int .i64 s.I, .int .i64 s.R, .int .i64 s.D, .int .i64 s.B, .int .i64 s.G] 35)).block x h1)
        have FIN := Lib.hid (show TkL W6 g sb (w.heap.size + 1) w.heap.size (.slice (some ⟨g2, o2, none⟩) (lu + 1) cp2) (comeN at_ (k + 1) t) at_ ∧ Moves F (fun x => x = g ∨ x = sb ∨ (Value.slice (some ⟨g2, o2, none⟩) (lu + 1) cp2).ownBlock = some x) w W6 by
          have l := LTS.out
          have z := SZ5.out
          rw [NX.out]
          refine ⟨⟨⟨by rw [← hW6]; exact R2.out.set 4 _, ?_, ?_, H.out.tk.ns, fun e => NE.out.1 (by simpa [Value.ownBlock] using e), fun e => NE.out.2.1 (by simpa [Value.ownBlock] using e), good_come GU.out a1 (by have := lu64.out; omega)⟩, ?_, fun e => NE.out.2.2.1 (by simpa [Value.ownBlock] using e), fun e => NE.out.2.2.2 (by simpa [Value.ownBlock] using e), H.out.gA, H.out.gS⟩, MV.out.trans ⟨?_, fun x q => ?_, fun x q => ?_⟩⟩
          · obtain ⟨_, _, _, _, _, q1, q2⟩ := S5.out
            exact ⟨_, _, _, _, _, (B6.out sb q1.lt (Ne.symm H.out.tk.ns) (fun e => H.out.tk.nvs (by rw [EA.out, e]))).trans q1, q2⟩
          · have hq3 : QueR w2 0 35 5 (.slice (some ⟨g2, o2, none⟩) (lu + 1) cp2) (u.l ++ [s]).length ((u.l ++ [s]).map Sb.cs).flatten := by
              have := Q2.out
              rw [List.length_append, HLU.out, List.map_append, List.flatten_append]
              simpa using this
            show QueR _ 0 35 5 _ (come1 u at_).l.length ((come1 u at_).l.map Sb.cs).flatten
            rw [show (come1 u at_).l = u.l ++ [s] from by show u.l ++ [ofV u.E u.P (u.came + 1) (lateO u at_)] = _; rw [SS.out]]
            exact hq3.carry (fun x hx => by
              simp only [Value.ownBlock, Option.some.injEq] at hx
              subst hx
              rw [← hW6]
              exact Below.heap_setCell _ _ _ _ NE.out.1)
          · have L5 : Late w5 (w.heap.size + 1) w.heap.size sb at_ := H.out.late.drew.but K5.out
            exact ⟨(B6.out _ L5.a.lt (Ne.symm H.out.gA) (fun e => H.out.nA (by rw [EA.out, e]))).trans L5.a, (B6.out _ L5.s.lt (Ne.symm H.out.gS) (fun e => H.out.nS (by rw [EA.out, e]))).trans L5.s, L5.na, L5.ns⟩
          · rw [← hW6]
            exact (((((Keeps.refl (fun x => x = g ∨ x = sb ∨ (Value.slice av u.l.length cv).ownBlock = some x) wr).drew.but K5.out (.inl (.inr (.inl rfl)))).alloc (Obj.cells #[.int .i64 s.I, .int .i64 s.R, .int .i64 s.D, .int .i64 s.B, .int .i64 s.G] 35)).grown G2.out (fun x e => .inl (.inr (.inr (by rw [EA.out]; exact e)))))).set (.inl (.inl rfl)) _ _
          · rcases q with rfl | rfl | q
            · exact .inl (.inl rfl)
            · exact .inl (.inr (.inl rfl))
            · simp only [Value.ownBlock, Option.some.injEq] at q
              subst q
              exact ORS.out.imp (fun q => .inr (.inr (by rw [EA.out]; exact q))) id
          · have z2 : w5.heap.size ≤ W6.heap.size := by rw [← hW6]; have := G2.out.size; simp at this ⊢; omega
            rcases q with rfl | rfl | q
            · omega
            · omega
            · simp only [Value.ownBlock, Option.some.injEq] at q
              subst q
              have := (Q2.out.lt _ rfl).2
              rw [← hW6]; simpa using this)
        rw [hW6]
        go_wp2
        go_roundw
        case rel => exact ⟨k + 1, _, by simp, by omega, FIN.out.1, FIN.out.2⟩
        case measure => simp [intOf]; omega
    · have d : decide ((k : Int) < n) = false := decide_eq_false hlt
      have kn : n.toNat = k := by omega
      go_wp2
      go_ret
      exact ⟨rfl, _, ⟨sb, v, by first | exact hkl.tk | (rw [kn]; exact hkl.tk), fun k => Iff.rfl⟩, hmv⟩
theorem tarrive_any (g : Nat) (F : Nat → Prop) (t : TS) (at_ n : Int) (w : World) (h : HpT w g F t) (hcm : t.came ≤ 100000) : Calls Try.prog 19 #[.pointer (some ⟨g, 0, none⟩), .int .i64 at_, .int .i64 n] w fun z w' => z = .returned (.int .i64 (arriveE t at_ n)) ∧ StaysT HpT w g F (arriveT t at_ n) w' := by
  by_cases h1 : ArrOk at_ n
  · by_cases h2 : t.cut = true
    · have e : arriveE t at_ n = 13 := by unfold arriveE; rw [if_neg (by simpa using h1), if_pos h2]
      have e2 : arriveT t at_ n = t := by unfold arriveT; rw [e]; rfl
      rw [e, e2]
      exact (tarrive_cut g F t at_ n w h h1 h2).mono fun _ _ ⟨a, b⟩ => ⟨a, by subst b; exact h.stays (Below.refl _ _)⟩
    · have h2' : t.cut = false := by simpa using h2
      by_cases h3 : 64 < (t.l.length : Int) + n
      · have e : arriveE t at_ n = 15 := by unfold arriveE; rw [if_neg (by simpa using h1), if_neg h2, if_pos h3]
        have e2 : arriveT t at_ n = t := by unfold arriveT; rw [e]; rfl
        rw [e, e2]
        exact (tarrive_full g F t at_ n w h h1 h2' h3).mono fun _ _ ⟨a, b⟩ => ⟨a, by subst b; exact h.stays (Below.refl _ _)⟩
      · have e : arriveE t at_ n = 0 := by unfold arriveE; rw [if_neg (by simpa using h1), if_neg h2, if_neg h3]
        have e2 : arriveT t at_ n = comeN at_ n.toNat t := by unfold arriveT; rw [e]; rfl
        rw [e, e2]
        exact tarrive_yes g F t at_ n w h hcm h1 h2' (by omega)
  · have e : arriveE t at_ n = 1 := by unfold arriveE; rw [if_pos h1]
    have e2 : arriveT t at_ n = t := by unfold arriveT; rw [e]; rfl
    rw [e, e2]
    exact (tarrive_bad g at_ n w h1).mono fun _ _ ⟨a, b⟩ => ⟨a, by subst b; exact h.stays (Below.refl _ _)⟩
end Go.Proofs.Ythaoijmjkmgebaa
