/-
  What the document's own Sort (regattaref06) gives back: contract.
-/
import Derived.Test.YtkiolkceaibmgaaEn2
import Derived.Deep.DeepCutAuto
import Derived.Deep.RegionHeld3
namespace Go.Proofs.Ytkiolkceaibmgaa
open Go.RowKit

theorem below_appF {w wr w2 : World} {e : TypeId} {c : Nat} {v : Value} {n : Nat} {xs : List Value} {o : Obj} (hb : Below w.heap.size w wr) (ho : wr.ownsRow w.heap.size e c v n xs) (hg : (wr.alloc o).grownBy w2 v.ownBlock) : Below w.heap.size w w2 :=
  (hb.alloc hb.size _).grown hg (by have := hb.size; simp; omega) (fun g hg => (ho.lt g hg).1)
/-- append of one entry to what is owned -/
theorem app_ent {w : World} {ops : Array Oper} {rest : List Oper} {o : Oper} {act : Act} {Q : Exit → Act → World → Prop} (hgd : o.guard = none) (s x : Operand)
    (ho : o.op = .call { callee := .builtin .append, args := #[s, x], argTypes := #[22, 22] }) (base : Nat)
    (v : Value) (ns : List Ent) (hs : act.eval s = v) (hown : w.ownsRow base 27 6 v ns.length (ns.map Ent.cs).flatten) (g : Nat) (e : Ent) (hx : act.eval x = .slice (some ⟨g, 0, none⟩) 1 1)
    (hg : w.heap[g]? = some (.cells #[.int .i64 e.id, .int .i64 e.idx, .int .i64 e.rel, .int .i64 e.dl, .int .i64 e.bit, .int .i64 e.grp] 27 (0, 0))) (hb : base ≤ w.heap.size) (hsm : ns.length ≤ 100000)
    (h : ∀ v' w', w'.ownsRow base 27 6 v' (ns ++ [e]).length ((ns ++ [e]).map Ent.cs).flatten → w.grownBy w' v.ownBlock → wpList Try.prog ops Q rest (act.put o.dst v') w') : wpList Try.prog ops Q (o :: rest) act w := by
  obtain ⟨i0, hi, hz0, hz1, hz2⟩ := info_parts Try.infoE
  refine wpList_append_own _ hgd s x _ ho base _ i0 _ 6 48 Try.underlying22 hi hz0 hz1 hz2 rfl (by decide) v _ _ hs hown ⟨g, 0, none⟩ 1 1 e.cs hx rfl (World.news_of_block (cs := #[.int .i64 e.id, .int .i64 e.idx, .int .i64 e.rel, .int .i64 e.dl, .int .i64 e.bit, .int .i64 e.grp]) (t := 27) (fr := (0, 0)) hg) (by simp [Ent.cs, Value.oneCell']) (by unfold maxLen; omega) (by omega) hb ?_
  intro v2 w2 ho2 hg2 _
  refine h v2 w2 ?_ hg2
  rw [List.length_append, List.map_append, List.flatten_append]
  simpa using ho2
set_option maxRecDepth 20000 in
set_option maxHeartbeats 4000000 in
theorem r6sort_any (a : Option Addr) (len cap : Nat) (es : List Ent) (w : World) (h : RowE w a len cap es) (hl : len ≤ 1000) :
    Calls Try.prog 13 #[.slice a len cap] w (GivesE w (sortE es)) := by
  have H := Lib.hid h
  have LN := Lib.hid h.len
  clear h
  go_enter Try.func13, Try.ntmps13
  go_wp2
  go_loopw [3, 4] (fun v u wr => ∃ (i : Nat) (ao : Option Addr) (co : Nat), u = .int .i64 i ∧ i ≤ len ∧ v = .slice ao i co ∧ RowE wr ao i co (sortE (es.take i)) ∧ Fresh w.heap.size ao ∧ Below w.heap.size w wr) (fun _ u _ => len - (intOf u).toNat)
  case atStart => exact ⟨0, none, 0, rfl, by omega, rfl, RowE.nil, Fresh.none, Below.refl _ _⟩
  case round =>
    obtain ⟨i, ao, co, rfl, il, rfl, hro, hfo, hbel⟩ := hrel
    have RO := Lib.hid hro
    have FO := Lib.hid hfo
    have B := Lib.hid hbel
    clear hro hfo hbel
    by_cases go : i < len
    · have b1 : decide (i < len) = true := by simp; omega
      have b2 : decide ((i : Int) < (len : Int)) = true := by simp; omega
      obtain ⟨x, hx, _, hxs⟩ := getE (es := es) (i := i) (by rw [LN.out]; exact go)
      have ET := Lib.hid (show sortE (es.take (i + 1)) = ins x (sortE (es.take i)) by rw [← sortE_snoc, List.take_add_one, hx]; rfl)
      obtain ⟨bl, ol, rfl, hat⟩ := H.out.at hx
      have XW := Lib.hid hat
      have XA := Lib.hid hat
      clear hx hat hxs
      obtain ⟨out, ho⟩ : ∃ out, sortE (es.take i) = out := ⟨_, rfl⟩
      rw [ho] at RO ET
      clear ho
      have OL := Lib.hid RO.out.len
      obtain ⟨wa, hwa⟩ : ∃ wa, wa = wr := ⟨_, rfl⟩
      rw [← hwa] at RO B ⊢
      clear hwa
      have i1 : (i : Int) < (len : Int) := by omega
      have i2 : 0 ≤ (i : Int) := by omega
      go_wp2
      go_loopw [5, 6, 7] (fun v p u wr => ∃ (k : Nat) (b : Bool) (ns : List Ent), u = .int .i64 k ∧ k ≤ i ∧ p = .bool b ∧ wr.ownsRow wa.heap.size 27 6 v ns.length (ns.map Ent.cs).flatten ∧ ins x out = ns ++ (if b then out.drop k else ins x (out.drop k)) ∧ Below wa.heap.size wa wr) (fun _ _ u _ => i - (intOf u).toNat)
      case atStart => exact ⟨0, false, [], rfl, by omega, rfl, World.ownsRow_nil _ _ _ _, rfl, Below.refl _ _⟩
      case round =>
        obtain ⟨k, b, ns, rfl, kl, rfl, hown, heq, hbel⟩ := hrel
        have HO := Lib.hid hown
        have EQ := Lib.hid heq
        have HBE := Lib.hid hbel
        have hsz := hbel.size
        have nl : ns.length ≤ i + 1 := by
          have := congrArg List.length heq
          rw [ins_len, OL.out, List.length_append] at this
          omega
        clear hown heq hbel
        have XA := Lib.hid (XA.out.below (below_next B.out HBE.out))
        by_cases go' : k < i
        · have b3 : decide (k < i) = true := by simp; omega
          have b4 : decide ((k : Int) < (i : Int)) = true := by simp; omega
          obtain ⟨y, hy, _, hys⟩ := getE (es := out) (i := k) (by rw [OL.out]; exact go')
          have ED := Lib.hid (show out.drop k = y :: out.drop (k + 1) by
            rw [List.drop_eq_getElem_cons (by rw [OL.out]; exact go')]
            rw [List.getElem?_eq_getElem (by rw [OL.out]; exact go')] at hy
            simp at hy; rw [hy])
          obtain ⟨bo, oo, rfl, hat⟩ := RO.out.at hy
          have YW := Lib.hid hat
          have YA := Lib.hid (hat.below HBE.out)
          clear hy hat hys
          have k1' : (k : Int) < (i : Int) := by omega
          have k2' : 0 ≤ (k : Int) := by omega
          go_upto_region 10 with fail
          have XA := Lib.hid XA.out.drew
          have YA := Lib.hid YA.out.drew
          have HO := Lib.hid HO.out.drew
          have HBE := Lib.hid HBE.out.drew
          have KEPT := Lib.hid (show ∀ w' : World, Below wr.drew.heap.size wr.drew w' → w'.cell? ⟨bl, ol + i * 6, none⟩ = some (.int .i64 x.id) ∧ w'.cell? ⟨bl, ol + i * 6 + 1, none⟩ = some (.int .i64 x.idx) ∧ w'.cell? ⟨bl, ol + i * 6 + 2, none⟩ = some (.int .i64 x.rel) ∧ w'.cell? ⟨bl, ol + i * 6 + 3, none⟩ = some (.int .i64 x.dl) ∧ w'.cell? ⟨bl, ol + i * 6 + 4, none⟩ = some (.int .i64 x.bit) ∧ w'.cell? ⟨bl, ol + i * 6 + 5, none⟩ = some (.int .i64 x.grp) ∧ w'.cell? ⟨bo, oo + k * 6, none⟩ = some (.int .i64 y.id) ∧ w'.cell? ⟨bo, oo + k * 6 + 1, none⟩ = some (.int .i64 y.idx) ∧ w'.cell? ⟨bo, oo + k * 6 + 2, none⟩ = some (.int .i64 y.rel) ∧ w'.cell? ⟨bo, oo + k * 6 + 3, none⟩ = some (.int .i64 y.dl) ∧ w'.cell? ⟨bo, oo + k * 6 + 4, none⟩ = some (.int .i64 y.bit) ∧ w'.cell? ⟨bo, oo + k * 6 + 5, none⟩ = some (.int .i64 y.grp) from fun w' h => ⟨(XA.out.below h).c0, (XA.out.below h).c1, (XA.out.below h).c2, (XA.out.below h).c3, (XA.out.below h).c4, (XA.out.below h).c5, (YA.out.below h).c0, (YA.out.below h).c1, (YA.out.below h).c2, (YA.out.below h).c3, (YA.out.below h).c4, (YA.out.below h).c5⟩)
          have BL := Lib.hid (Below.refl wr.drew.heap.size wr.drew)
          go_region_held3 (fun w' => w'.cell? ⟨bl, ol + i * 6, none⟩ = some (.int .i64 x.id) ∧ w'.cell? ⟨bl, ol + i * 6 + 1, none⟩ = some (.int .i64 x.idx) ∧ w'.cell? ⟨bl, ol + i * 6 + 2, none⟩ = some (.int .i64 x.rel) ∧ w'.cell? ⟨bl, ol + i * 6 + 3, none⟩ = some (.int .i64 x.dl) ∧ w'.cell? ⟨bl, ol + i * 6 + 4, none⟩ = some (.int .i64 x.bit) ∧ w'.cell? ⟨bl, ol + i * 6 + 5, none⟩ = some (.int .i64 x.grp) ∧ w'.cell? ⟨bo, oo + k * 6, none⟩ = some (.int .i64 y.id) ∧ w'.cell? ⟨bo, oo + k * 6 + 1, none⟩ = some (.int .i64 y.idx) ∧ w'.cell? ⟨bo, oo + k * 6 + 2, none⟩ = some (.int .i64 y.rel) ∧ w'.cell? ⟨bo, oo + k * 6 + 3, none⟩ = some (.int .i64 y.dl) ∧ w'.cell? ⟨bo, oo + k * 6 + 4, none⟩ = some (.int .i64 y.bit) ∧ w'.cell? ⟨bo, oo + k * 6 + 5, none⟩ = some (.int .i64 y.grp))
            (exact KEPT.out _ BL.out)
            (first | (go_at_call 19; (with_reducible refine (r6less_any x y _).mono ?_); rintro e w4 ⟨rfl, hb⟩; have BL := Lib.hid hb; clear hb))
          all_goals
            have XA := Lib.hid (XA.out.below BL.out)
            have YA := Lib.hid (YA.out.below BL.out)
            have HO := Lib.hid (owns_below HO.out BL.out)
            have HBE := Lib.hid (below_next HBE.out BL.out)
            have hsz := HBE.out.size
            clear BL KEPT
            have x0 := XA.out.c0; have x1 := XA.out.c1; have x2 := XA.out.c2; have x3 := XA.out.c3; have x4 := XA.out.c4; have x5 := XA.out.c5
            have y0 := YA.out.c0; have y1 := YA.out.c1; have y2 := YA.out.c2; have y3 := YA.out.c3; have y4 := YA.out.c4; have y5 := YA.out.c5
            obtain ⟨f, hf⟩ : ∃ f, lessB x y = f := ⟨_, rfl⟩
            rw [hf]
            have HF := Lib.hid hf
            clear hf
            cases b with
            | true =>
              go_wp2_with (at_builtin; refine app_ent rfl _ _ rfl wa.heap.size _ ns rfl (HO.out.alloc _) w4.heap.size y rfl (heap_alloc_new w4 _) (by simp; omega) (by omega) ?_; intro v2 w2 hown2 hgrow2; have HO2 := Lib.hid hown2; have BE2 := Lib.hid (below_appF HBE.out HO.out hgrow2); clear hown2 hgrow2)
              go_roundw
              case rel => exact ⟨k + 1, true, ns ++ [y], by go_num, by omega, rfl, HO2.out, by rw [EQ.out, if_pos rfl, if_pos rfl, ED.out, List.append_assoc]; rfl, BE2.out⟩
              case measure => simp [intOf]; omega
            | false =>
              cases f with
              | false =>
                go_wp2_with (at_builtin; refine app_ent rfl _ _ rfl wa.heap.size _ ns rfl (HO.out.alloc _) w4.heap.size y rfl (heap_alloc_new w4 _) (by simp; omega) (by omega) ?_; intro v2 w2 hown2 hgrow2; have HO2 := Lib.hid hown2; have BE2 := Lib.hid (below_appF HBE.out HO.out hgrow2); clear hown2 hgrow2)
                go_roundw
                case rel => exact ⟨k + 1, false, ns ++ [y], by go_num, by omega, rfl, HO2.out, by rw [EQ.out, if_neg (by decide), if_neg (by decide), ED.out, ins_step_on _ _ _ HF.out, List.append_assoc]; rfl, BE2.out⟩
                case measure => simp [intOf]; omega
              | true =>
                go_wp2_with (first | (at_builtin; refine app_ent rfl _ _ rfl wa.heap.size _ ns rfl (HO.out.alloc _) w4.heap.size x rfl (heap_alloc_new w4 _) (by simp; omega) (by omega) ?_; intro v2 w2 hown2 hgrow2; have HO2 := Lib.hid hown2; have BE2 := Lib.hid (below_appF HBE.out HO.out hgrow2); clear hown2 hgrow2; have YB := Lib.hid (YW.out.below BE2.out); have q0 := YB.out.c0; have q1 := YB.out.c1; have q2 := YB.out.c2; have q3 := YB.out.c3; have q4 := YB.out.c4; have q5 := YB.out.c5; have ns1 : (ns ++ [x]).length ≤ 100000 := (by simp; omega); have wa2 := BE2.out.size) | (at_builtin; refine app_ent rfl _ _ rfl wa.heap.size _ (ns ++ [x]) rfl (HO2.out.alloc _) w2.heap.size y rfl (heap_alloc_new w2 _) (by simp; omega) ns1 ?_; intro v3 w3 hown3 hgrow3; have HO3 := Lib.hid hown3; have BE3 := Lib.hid (below_appF BE2.out HO2.out hgrow3); clear hown3 hgrow3))
                go_roundw
                case rel => exact ⟨k + 1, true, ns ++ [x] ++ [y], by go_num, by omega, rfl, HO3.out, by rw [EQ.out, if_neg (by decide), if_pos rfl, ED.out, ins_step_put _ _ _ HF.out, List.append_assoc, List.append_assoc]; rfl, BE3.out⟩
                case measure => simp [intOf]; omega
        have b3 : decide (k < i) = false := by simp; omega
        have b4 : decide ((k : Int) < (i : Int)) = false := by simp; omega
        have ED := Lib.hid (show out.drop k = [] from List.drop_eq_nil_of_le (by rw [OL.out]; omega))
        cases b with
        | true =>
          obtain ⟨a', cap', hv, hrow, hfr⟩ := rowE_of_owns HO.out rfl
          have NL := Lib.hid (show ns.length = i + 1 by have := congrArg List.length EQ.out; rw [ins_len, OL.out, if_pos rfl, ED.out, List.append_nil] at this; omega)
          rw [NL.out] at hv hrow
          subst hv
          have RN := Lib.hid hrow
          have FN := Lib.hid hfr
          clear hrow hfr
          go_wp2
          go_roundw
          case rel => exact ⟨i + 1, a', cap', by go_num, by omega, rfl, by rw [ET.out, EQ.out, if_pos rfl, ED.out, List.append_nil]; exact RN.out, FN.out.mono B.out.size, below_next B.out HBE.out⟩
          case measure => simp [intOf]; omega
        | false =>
          have x0 := XA.out.c0; have x1 := XA.out.c1; have x2 := XA.out.c2; have x3 := XA.out.c3; have x4 := XA.out.c4; have x5 := XA.out.c5
          have NL := Lib.hid (show (ns ++ [x]).length = i + 1 by have := congrArg List.length EQ.out; rw [ins_len, OL.out, if_neg (by decide), ED.out] at this; exact this.symm)
          go_wp2_with (at_builtin; refine app_ent rfl _ _ rfl wa.heap.size _ ns rfl (HO.out.alloc _) wr.heap.size x rfl (heap_alloc_new wr _) (by simp; omega) (by omega) ?_; intro v2 w2 hown2 hgrow2; obtain ⟨a', cap', hv, hrow, hfr⟩ := rowE_of_owns hown2 rfl; rw [NL.out] at hv hrow; subst hv; have RN := Lib.hid hrow; have FN := Lib.hid hfr; have BE2 := Lib.hid (below_appF HBE.out HO.out hgrow2); clear hown2 hgrow2 hrow hfr)
          go_roundw
          case rel => exact ⟨i + 1, a', cap', by go_num, by omega, rfl, by rw [ET.out, EQ.out, if_neg (by decide), ED.out]; exact RN.out, FN.out.mono B.out.size, below_next B.out BE2.out⟩
          case measure => simp [intOf]; omega
    have b1 : decide (i < len) = false := by simp; omega
    have b2 : decide ((i : Int) < (len : Int)) = false := by simp; omega
    have EF := Lib.hid (show es.take i = es from List.take_of_length_le (by rw [LN.out]; omega))
    go_wp2
    go_ret
    exact ⟨_, _, _, rfl, by rw [← EF.out]; exact RO.out, B.out, FO.out⟩
end Go.Proofs.Ytkiolkceaibmgaa
