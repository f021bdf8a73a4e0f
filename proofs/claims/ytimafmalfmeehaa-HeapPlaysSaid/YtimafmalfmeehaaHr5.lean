/-
  The document's own heap (regattaref07): IDs, Same: contracts.
-/
import Derived.Test.YtimafmalfmeehaaHr4
namespace Go.Proofs.Ytimafmalfmeehaa
open Go.RowKit
section
variable {P : Program} {ops : Array Oper} {Q : Exit → Act → World → Prop} {md : Region.Mode} {S : World → Prop}
/-- take number i first: it is wanted -/
theorem takeY {i : Nat} {oi : Oper} {v : Value} {fuel : Nat} {listed : Array Bool} {a : Act} {w : World} (hi : ops[i]? = some oi)
    (hs : Region.noSelect ops = true) (hf : Region.free md ops listed i = true) (hr : (Region.ready md ops listed).contains i = true)
    (hQ : ∀ c a w, Q (.panic c) (a.put oi.dst v) w → Q (.panic c) a w) (hw : Region.wanted oi (yielded ops a.tmps) = true) (hy : ∀ w, S w → (execOp a.eval oi).run P w = .ok (.value v) w) (hS : S w)
    (h : wpAnyH P md ops Q S fuel (listed.setIfInBounds i true) (a.put oi.dst v) w) : wpAnyH P md ops Q S (fuel + 1) listed a w :=
  wpAnyH_take hi hs hf hr hQ (.inl ⟨hw, hy⟩) hS h
/-- .. it is not wanted -/
theorem takeN {i : Nat} {oi : Oper} {fuel : Nat} {listed : Array Bool} {a : Act} {w : World} (hi : ops[i]? = some oi)
    (hs : Region.noSelect ops = true) (hf : Region.free md ops listed i = true) (hr : (Region.ready md ops listed).contains i = true)
    (hQ : ∀ c a w, Q (.panic c) (a.put oi.dst undef) w → Q (.panic c) a w) (hw : Region.wanted oi (yielded ops a.tmps) = false) (hS : S w)
    (h : wpAnyH P md ops Q S fuel (listed.setIfInBounds i true) (a.put oi.dst undef) w) : wpAnyH P md ops Q S (fuel + 1) listed a w :=
  wpAnyH_take hi hs hf hr hQ (.inr ⟨hw, rfl⟩) hS h
end

def insI (x : Int) : List Int → List Int
  | [] => [x]
  | y :: r => if x < y then x :: y :: r else y :: insI x r
def idsT (ts : List Th) : List Int := ts.foldl (fun o t => insI t.id o) []
theorem insI_len (x : Int) (l : List Int) : (insI x l).length = l.length + 1 := by
  induction l with
  | nil => rfl
  | cons y r ih =>
    unfold insI
    split
    · rfl
    · rw [List.length_cons, ih]; rfl
theorem insI_put (x y : Int) (r : List Int) (h : x < y) : insI x (y :: r) = x :: y :: r := by unfold insI; rw [if_pos h]
theorem insI_on (x y : Int) (r : List Int) (h : ¬ x < y) : insI x (y :: r) = y :: insI x r := by
  show (if x < y then x :: y :: r else y :: insI x r) = y :: insI x r
  rw [if_neg h]
theorem idsT_snoc (ts : List Th) (t : Th) : idsT (ts ++ [t]) = insI t.id (idsT ts) := by unfold idsT; rw [List.foldl_append]; rfl
theorem Try.infoI : (Try.prog.info? 3).map (fun i => (i.zero, i.size, i.bytes)) = some (some (.int .i64 0), 1, 8) := by kernel_rfl
theorem app_int {w : World} {ops : Array Oper} {rest : List Oper} {o : Oper} {act : Act} {Q : Exit → Act → World → Prop} (hgd : o.guard = none) (s x : Operand)
    (ho : o.op = .call { callee := .builtin .append, args := #[s, x], argTypes := #[44, 44] }) (base : Nat)
    (v : Value) (ns : List Int) (hs : act.eval s = v) (hown : w.ownsRow base 3 1 v ns.length (ns.map (Value.int .i64))) (g : Nat) (e : Int) (hx : act.eval x = .slice (some ⟨g, 0, none⟩) 1 1)
    (hg : w.heap[g]? = some (.cells #[.int .i64 e] 3 (0, 0))) (hb : base ≤ w.heap.size) (hsm : ns.length ≤ 100000)
    (h : ∀ v' w', w'.ownsRow base 3 1 v' (ns ++ [e]).length ((ns ++ [e]).map (Value.int .i64)) → w.grownBy w' v.ownBlock → wpList Try.prog ops Q rest (act.put o.dst v') w') : wpList Try.prog ops Q (o :: rest) act w := by
  obtain ⟨i0, hi, hz0, hz1, hz2⟩ := info_parts Try.infoI
  refine wpList_append_own _ hgd s x _ ho base _ i0 _ 1 8 Try.underlying44 hi hz0 hz1 hz2 rfl (by decide) v _ _ hs hown ⟨g, 0, none⟩ 1 1 [.int .i64 e] hx rfl (World.news_of_block (cs := #[.int .i64 e]) (t := 3) (fr := (0, 0)) hg) (by simp [Value.oneCell']) (by unfold maxLen; omega) (by omega) hb ?_
  intro v2 w2 ho2 hg2 _
  refine h v2 w2 ?_ hg2
  rw [List.length_append, List.map_append]
  exact ho2
theorem getI {zs : List Int} {i : Nat} (hi : i < zs.length) : ∃ y, zs.getD i 0 = y ∧ zs.drop i = y :: zs.drop (i + 1) :=
  ⟨zs[i], by rw [List.getD_eq_getElem?_getD, List.getElem?_eq_getElem hi]; rfl, List.drop_eq_getElem_cons hi⟩
set_option maxRecDepth 20000 in
set_option maxHeartbeats 4000000 in
theorem r7ids_any (g : Nat) (F : Nat → Prop) (ts : List Th) (w : World) (h : RH w g F ts) (hl : ts.length ≤ 1000) :
    Calls Try.prog 23 #[.pointer (some ⟨g, 0, none⟩)] w (Gives .i64 w fun zs => zs = idsT ts) := by
  obtain ⟨v, hb, ho, hF, hne⟩ := h
  obtain ⟨a, cap, rfl, hr, _⟩ := rowT_of_owns ho rfl
  have R := Lib.hid hr
  obtain ⟨len, hlen⟩ : ∃ len, ts.length = len := ⟨_, rfl⟩
  rw [hlen] at R hl hb
  have BK := Lib.hid hb
  have LN := Lib.hid hlen
  clear hb ho hr hlen hF hne
  go_enter Try.func23, Try.ntmps23
  go_wp2
  go_loopw [3, 4] (fun v u wr => ∃ (i : Nat) (ao : Option Addr) (co : Nat), u = .int .i64 i ∧ i ≤ len ∧ v = .slice ao i co ∧ Row .i64 wr ao i co (idsT (ts.take i)) ∧ Fresh w.heap.size ao ∧ Below w.heap.size w wr) (fun _ u _ => len - (intOf u).toNat)
  case atStart => exact ⟨0, none, 0, rfl, by omega, rfl, Row.nil, Fresh.none, Below.refl _ _⟩
  case round =>
    obtain ⟨i, ao, co, rfl, il, rfl, hro, hfo, hbel⟩ := hrel
    have RO := Lib.hid hro
    have FO := Lib.hid hfo
    have B := Lib.hid hbel
    have BW := Lib.hid (BK.out.below hbel)
    have c1 := BW.out.cell 0
    simp at c1
    clear hro hfo hbel
    by_cases go : i < len
    · have b1 : decide (i < len) = true := by simp; omega
      have b2 : decide ((i : Int) < (len : Int)) = true := by simp; omega
      obtain ⟨t, ht⟩ := getT (ts := ts) (i := i) (by rw [LN.out]; exact go)
      obtain ⟨x, hx⟩ : ∃ x, t.id = x := ⟨_, rfl⟩
      have ET := Lib.hid (show idsT (ts.take (i + 1)) = insI x (idsT (ts.take i)) by rw [← hx, ← idsT_snoc, List.take_add_one, ht]; rfl)
      obtain ⟨bl, ol, rfl, hat⟩ := R.out.at ht
      have xw := hat.c0
      rw [hx] at xw
      have XW := Lib.hid xw
      clear ht hat hx xw
      obtain ⟨out, ho⟩ : ∃ out, idsT (ts.take i) = out := ⟨_, rfl⟩
      rw [ho] at RO ET
      clear ho
      have OL := Lib.hid RO.out.len
      obtain ⟨wa, hwa⟩ : ∃ wa, wa = wr := ⟨_, rfl⟩
      rw [← hwa] at RO B BW c1 ⊢
      clear hwa
      have i1 : (i : Int) < (len : Int) := by omega
      have i2 : 0 ≤ (i : Int) := by omega
      go_wp2
      go_loopw [5, 6, 7] (fun v p u wr => ∃ (k : Nat) (b : Bool) (ns : List Int), u = .int .i64 k ∧ k ≤ i ∧ p = .bool b ∧ wr.ownsRow wa.heap.size 3 1 v ns.length (ns.map (Value.int .i64)) ∧ insI x out = ns ++ (if b then out.drop k else insI x (out.drop k)) ∧ Below wa.heap.size wa wr) (fun _ _ u _ => i - (intOf u).toNat)
      case atStart => exact ⟨0, false, [], rfl, by omega, rfl, World.ownsRow_nil _ _ _ _, rfl, Below.refl _ _⟩
      case round =>
        obtain ⟨k, b, ns, rfl, kl, rfl, hown, heq, hbel⟩ := hrel
        have HO := Lib.hid hown
        have EQ := Lib.hid heq
        have HBE := Lib.hid hbel
        have hsz := hbel.size
        have nl : ns.length ≤ i + 1 := by
          have := congrArg List.length heq
          rw [insI_len, OL.out, List.length_append] at this
          omega
        have BC := Lib.hid (BW.out.below hbel)
        have XC := Lib.hid (hb_cell (below_next B.out hbel) XW.out)
        clear hown heq hbel c1
        by_cases go' : k < i
        · have b3 : decide (k < i) = true := by simp; omega
          have b4 : decide ((k : Int) < (i : Int)) = true := by simp; omega
          obtain ⟨y, hy, hd⟩ := getI (zs := out) (i := k) (by rw [OL.out]; exact go')
          have ED := Lib.hid hd
          obtain ⟨bo, oo, rfl, hc⟩ := RO.out.cell (i := k) go'
          rw [hy] at hc
          have YW := Lib.hid hc
          have YC := Lib.hid (hb_cell HBE.out hc)
          clear hy hd hc
          have k1' : (k : Int) < (i : Int) := by omega
          have k2' : 0 ≤ (k : Int) := by omega
          cases b with
          | true =>
            go_upto_region 10 with fail
            have HO := Lib.hid HO.out.drew
            have HBE := Lib.hid HBE.out.drew
            have BC := Lib.hid BC.out.drew
            have KEPT := Lib.hid (show ∀ w' : World, Below wr.drew.heap.size wr.drew w' → w'.cell? ⟨g, 0, none⟩ = some (.slice (some ⟨bl, ol, none⟩) len cap) from fun w' h => (BC.out.below h).cell 0)
            have BL := Lib.hid (Below.refl wr.drew.heap.size wr.drew)
            refine wp_region_noPanic ?_
            refine wp_region_held_drew (S := fun w' => w'.cell? ⟨g, 0, none⟩ = some (.slice (some ⟨bl, ol, none⟩) len cap)) (by kernel_rfl) (KEPT.out _ BL.out) (fun hHeld => ?_)
            refine' takeY (i := 0) (oi := _) (v := _) ?hia0 (by kernel_rfl) (by kernel_rfl) (by kernel_rfl) (fun _ _ _ h => h) ?hwa0 ?hya0 hHeld ?resta0
            case hia0 => (simp only [List.getElem?_toArray, List.getElem?_cons_zero]; rfl)
            case hwa0 => rfl
            case hya0 => (intro w hSw; (try dsimp only at hSw); go_simp; try with_reducible rfl)
            try simp only [Act.put, List.setIfInBounds_toArray, List.set_cons_zero, List.set_cons_succ]
            refine' takeY (i := 1) (oi := _) (v := _) ?hia1 (by kernel_rfl) (by kernel_rfl) (by kernel_rfl) (fun _ _ _ h => h) ?hwa1 ?hya1 hHeld ?resta1
            case hia1 => (simp only [List.getElem?_toArray, List.getElem?_cons_succ, List.getElem?_cons_zero]; rfl)
            case hwa1 => rfl
            case hya1 => (intro w hSw; (try dsimp only at hSw); go_simp; try with_reducible rfl)
            try simp only [Act.put, List.setIfInBounds_toArray, List.set_cons_zero, List.set_cons_succ]
            refine' takeY (i := 2) (oi := _) (v := _) ?hia2 (by kernel_rfl) (by kernel_rfl) (by kernel_rfl) (fun _ _ _ h => h) ?hwa2 ?hya2 hHeld ?resta2
            case hia2 => (simp only [List.getElem?_toArray, List.getElem?_cons_succ, List.getElem?_cons_zero]; rfl)
            case hwa2 => rfl
            case hya2 => (intro w hSw; (try dsimp only at hSw); go_simp; try with_reducible rfl)
            try simp only [Act.put, List.setIfInBounds_toArray, List.set_cons_zero, List.set_cons_succ]
            refine' takeN (i := 3) (oi := _) ?hia3 (by kernel_rfl) (by kernel_rfl) (by kernel_rfl) (fun _ _ _ h => h) ?hwa3 hHeld ?resta3
            case hia3 => (simp only [List.getElem?_toArray, List.getElem?_cons_succ, List.getElem?_cons_zero]; rfl)
            case hwa3 => rfl
            try simp only [Act.put, List.setIfInBounds_toArray, List.set_cons_zero, List.set_cons_succ]
            refine' takeN (i := 4) (oi := _) ?hia4 (by kernel_rfl) (by kernel_rfl) (by kernel_rfl) (fun _ _ _ h => h) ?hwa4 hHeld ?resta4
            case hia4 => (simp only [List.getElem?_toArray, List.getElem?_cons_succ, List.getElem?_cons_zero]; rfl)
            case hwa4 => rfl
            try simp only [Act.put, List.setIfInBounds_toArray, List.set_cons_zero, List.set_cons_succ]
            refine' takeN (i := 5) (oi := _) ?hia5 (by kernel_rfl) (by kernel_rfl) (by kernel_rfl) (fun _ _ _ h => h) ?hwa5 hHeld ?resta5
            case hia5 => (simp only [List.getElem?_toArray, List.getElem?_cons_succ, List.getElem?_cons_zero]; rfl)
            case hwa5 => rfl
            try simp only [Act.put, List.setIfInBounds_toArray, List.set_cons_zero, List.set_cons_succ]
            refine' takeN (i := 6) (oi := _) ?hia6 (by kernel_rfl) (by kernel_rfl) (by kernel_rfl) (fun _ _ _ h => h) ?hwa6 hHeld ?resta6
            case hia6 => (simp only [List.getElem?_toArray, List.getElem?_cons_succ, List.getElem?_cons_zero]; rfl)
            case hwa6 => rfl
            try simp only [Act.put, List.setIfInBounds_toArray, List.set_cons_zero, List.set_cons_succ]
            refine' takeN (i := 7) (oi := _) ?hia7 (by kernel_rfl) (by kernel_rfl) (by kernel_rfl) (fun _ _ _ h => h) ?hwa7 hHeld ?resta7
            case hia7 => (simp only [List.getElem?_toArray, List.getElem?_cons_succ, List.getElem?_cons_zero]; rfl)
            case hwa7 => rfl
            try simp only [Act.put, List.setIfInBounds_toArray, List.set_cons_zero, List.set_cons_succ]
            refine' takeN (i := 8) (oi := _) ?hia8 (by kernel_rfl) (by kernel_rfl) (by kernel_rfl) (fun _ _ _ h => h) ?hwa8 hHeld ?resta8
            case hia8 => (simp only [List.getElem?_toArray, List.getElem?_cons_succ, List.getElem?_cons_zero]; rfl)
            case hwa8 => rfl
            try simp only [Act.put, List.setIfInBounds_toArray, List.set_cons_zero, List.set_cons_succ]
            refine' takeN (i := 9) (oi := _) ?hia9 (by kernel_rfl) (by kernel_rfl) (by kernel_rfl) (fun _ _ _ h => h) ?hwa9 hHeld ?resta9
            case hia9 => (simp only [List.getElem?_toArray, List.getElem?_cons_succ, List.getElem?_cons_zero]; rfl)
            case hwa9 => rfl
            try simp only [Act.put, List.setIfInBounds_toArray, List.set_cons_zero, List.set_cons_succ]
            refine' takeN (i := 10) (oi := _) ?hia10 (by kernel_rfl) (by kernel_rfl) (by kernel_rfl) (fun _ _ _ h => h) ?hwa10 hHeld ?resta10
            case hia10 => (simp only [List.getElem?_toArray, List.getElem?_cons_succ, List.getElem?_cons_zero]; rfl)
            case hwa10 => rfl
            try simp only [Act.put, List.setIfInBounds_toArray, List.set_cons_zero, List.set_cons_succ]
            refine' takeN (i := 11) (oi := _) ?hia11 (by kernel_rfl) (by kernel_rfl) (by kernel_rfl) (fun _ _ _ h => h) ?hwa11 hHeld ?resta11
            case hia11 => (simp only [List.getElem?_toArray, List.getElem?_cons_succ, List.getElem?_cons_zero]; rfl)
            case hwa11 => rfl
            try simp only [Act.put, List.setIfInBounds_toArray, List.set_cons_zero, List.set_cons_succ]
            refine' takeN (i := 12) (oi := _) ?hia12 (by kernel_rfl) (by kernel_rfl) (by kernel_rfl) (fun _ _ _ h => h) ?hwa12 hHeld ?resta12
            case hia12 => (simp only [List.getElem?_toArray, List.getElem?_cons_succ, List.getElem?_cons_zero]; rfl)
            case hwa12 => rfl
            try simp only [Act.put, List.setIfInBounds_toArray, List.set_cons_zero, List.set_cons_succ]
            refine' takeN (i := 13) (oi := _) ?hia13 (by kernel_rfl) (by kernel_rfl) (by kernel_rfl) (fun _ _ _ h => h) ?hwa13 hHeld ?resta13
            case hia13 => (simp only [List.getElem?_toArray, List.getElem?_cons_succ, List.getElem?_cons_zero]; rfl)
            case hwa13 => rfl
            try simp only [Act.put, List.setIfInBounds_toArray, List.set_cons_zero, List.set_cons_succ]
            refine' takeN (i := 14) (oi := _) ?hia14 (by kernel_rfl) (by kernel_rfl) (by kernel_rfl) (fun _ _ _ h => h) ?hwa14 hHeld ?resta14
            case hia14 => (simp only [List.getElem?_toArray, List.getElem?_cons_succ, List.getElem?_cons_zero]; rfl)
            case hwa14 => rfl
            try simp only [Act.put, List.setIfInBounds_toArray, List.set_cons_zero, List.set_cons_succ]
            refine' takeN (i := 15) (oi := _) ?hia15 (by kernel_rfl) (by kernel_rfl) (by kernel_rfl) (fun _ _ _ h => h) ?hwa15 hHeld ?resta15
            case hia15 => (simp only [List.getElem?_toArray, List.getElem?_cons_succ, List.getElem?_cons_zero]; rfl)
            case hwa15 => rfl
            try simp only [Act.put, List.setIfInBounds_toArray, List.set_cons_zero, List.set_cons_succ]
            refine' takeY (i := 16) (oi := _) (v := _) ?hia16 (by kernel_rfl) (by kernel_rfl) (by kernel_rfl) (fun _ _ _ h => h) ?hwa16 ?hya16 hHeld ?resta16
            case hia16 => (simp only [List.getElem?_toArray, List.getElem?_cons_succ, List.getElem?_cons_zero]; rfl)
            case hwa16 => rfl
            case hya16 => (intro w hSw; (try dsimp only at hSw); go_simp; try with_reducible rfl)
            try simp only [Act.put, List.setIfInBounds_toArray, List.set_cons_zero, List.set_cons_succ]
            refine wpAnyH_done (by kernel_rfl) ?_ _
            refine NoPanic.normal ?_
            clear KEPT BL hHeld
            obtain ⟨W1, hW1⟩ : ∃ W1, wr.drew = W1 := ⟨_, rfl⟩
            have y0 : W1.cell? ⟨bo, oo + k, none⟩ = some (.int .i64 y) := by rw [← hW1]; exact YC.out
            rw [hW1] at HO HBE ⊢
            clear hW1
            have hsz := HBE.out.size
            go_wp2_with (at_builtin; refine app_int rfl _ _ rfl wa.heap.size _ ns rfl (HO.out.alloc _) W1.heap.size y rfl (heap_alloc_new W1 _) (by simp; omega) (by (try simp); omega) ?_; intro v2 w2 hown2 hgrow2; have HO2 := Lib.hid hown2; have BE2 := Lib.hid (below_appF HBE.out HO.out hgrow2); clear hown2 hgrow2)
            go_roundw
            case rel => exact ⟨k + 1, true, ns ++ [y], by go_num, by omega, rfl, HO2.out, by rw [EQ.out, if_pos rfl, if_pos rfl, ED.out, List.append_assoc]; rfl, BE2.out⟩
            case measure => simp [intOf]; omega
          | false =>
            by_cases f : x < y
            · have t1 : decide (x < y) = true := decide_eq_true f
              have HF := Lib.hid f
              clear f
              go_upto_region 10 with fail
              have HO := Lib.hid HO.out.drew
              have HBE := Lib.hid HBE.out.drew
              have BC := Lib.hid BC.out.drew
              have KEPT := Lib.hid (show ∀ w' : World, Below wr.drew.heap.size wr.drew w' → w'.cell? ⟨g, 0, none⟩ = some (.slice (some ⟨bl, ol, none⟩) len cap) ∧ w'.cell? ⟨bl, ol + i * 2, none⟩ = some (.int .i64 x) ∧ w'.cell? ⟨bo, oo + k, none⟩ = some (.int .i64 y) from fun w' h => ⟨(BC.out.below h).cell 0, hb_cell h XC.out, hb_cell h YC.out⟩)
              have BL := Lib.hid (Below.refl wr.drew.heap.size wr.drew)
              refine wp_region_noPanic ?_
              refine wp_region_held_drew (S := fun w' => w'.cell? ⟨g, 0, none⟩ = some (.slice (some ⟨bl, ol, none⟩) len cap) ∧ w'.cell? ⟨bl, ol + i * 2, none⟩ = some (.int .i64 x) ∧ w'.cell? ⟨bo, oo + k, none⟩ = some (.int .i64 y)) (by kernel_rfl) (KEPT.out _ BL.out) (fun hHeld => ?_)
              refine' takeY (i := 0) (oi := _) (v := _) ?hib0 (by kernel_rfl) (by kernel_rfl) (by kernel_rfl) (fun _ _ _ h => h) ?hwb0 ?hyb0 hHeld ?restb0
              case hib0 => (simp only [List.getElem?_toArray, List.getElem?_cons_zero]; rfl)
              case hwb0 => rfl
              case hyb0 => (intro w hSw; (try dsimp only at hSw); go_simp; try with_reducible rfl)
              try simp only [Act.put, List.setIfInBounds_toArray, List.set_cons_zero, List.set_cons_succ]
              refine' takeY (i := 1) (oi := _) (v := _) ?hib1 (by kernel_rfl) (by kernel_rfl) (by kernel_rfl) (fun _ _ _ h => h) ?hwb1 ?hyb1 hHeld ?restb1
              case hib1 => (simp only [List.getElem?_toArray, List.getElem?_cons_succ, List.getElem?_cons_zero]; rfl)
              case hwb1 => rfl
              case hyb1 => (intro w hSw; (try dsimp only at hSw); go_simp; try with_reducible rfl)
              try simp only [Act.put, List.setIfInBounds_toArray, List.set_cons_zero, List.set_cons_succ]
              refine' takeY (i := 2) (oi := _) (v := _) ?hib2 (by kernel_rfl) (by kernel_rfl) (by kernel_rfl) (fun _ _ _ h => h) ?hwb2 ?hyb2 hHeld ?restb2
              case hib2 => (simp only [List.getElem?_toArray, List.getElem?_cons_succ, List.getElem?_cons_zero]; rfl)
              case hwb2 => rfl
              case hyb2 => (intro w hSw; (try dsimp only at hSw); go_simp; try with_reducible rfl)
              try simp only [Act.put, List.setIfInBounds_toArray, List.set_cons_zero, List.set_cons_succ]
              refine' takeY (i := 3) (oi := _) (v := _) ?hib3 (by kernel_rfl) (by kernel_rfl) (by kernel_rfl) (fun _ _ _ h => h) ?hwb3 ?hyb3 hHeld ?restb3
              case hib3 => (simp only [List.getElem?_toArray, List.getElem?_cons_succ, List.getElem?_cons_zero]; rfl)
              case hwb3 => rfl
              case hyb3 => (intro w hSw; (try dsimp only at hSw); go_simp; try with_reducible rfl)
              try simp only [Act.put, List.setIfInBounds_toArray, List.set_cons_zero, List.set_cons_succ]
              refine' takeY (i := 4) (oi := _) (v := _) ?hib4 (by kernel_rfl) (by kernel_rfl) (by kernel_rfl) (fun _ _ _ h => h) ?hwb4 ?hyb4 hHeld ?restb4
              case hib4 => (simp only [List.getElem?_toArray, List.getElem?_cons_succ, List.getElem?_cons_zero]; rfl)
              case hwb4 => rfl
              case hyb4 => (intro w hSw; (try dsimp only at hSw); go_simp; try with_reducible rfl)
              try simp only [Act.put, List.setIfInBounds_toArray, List.set_cons_zero, List.set_cons_succ]
              refine' takeY (i := 5) (oi := _) (v := _) ?hib5 (by kernel_rfl) (by kernel_rfl) (by kernel_rfl) (fun _ _ _ h => h) ?hwb5 ?hyb5 hHeld ?restb5
              case hib5 => (simp only [List.getElem?_toArray, List.getElem?_cons_succ, List.getElem?_cons_zero]; rfl)
              case hwb5 => rfl
              case hyb5 => (intro w hSw; (try dsimp only at hSw); go_simp; try with_reducible rfl)
              try simp only [Act.put, List.setIfInBounds_toArray, List.set_cons_zero, List.set_cons_succ]
              refine' takeY (i := 6) (oi := _) (v := _) ?hib6 (by kernel_rfl) (by kernel_rfl) (by kernel_rfl) (fun _ _ _ h => h) ?hwb6 ?hyb6 hHeld ?restb6
              case hib6 => (simp only [List.getElem?_toArray, List.getElem?_cons_succ, List.getElem?_cons_zero]; rfl)
              case hwb6 => rfl
              case hyb6 => (intro w hSw; (try dsimp only at hSw); go_simp; try with_reducible rfl)
              try simp only [Act.put, List.setIfInBounds_toArray, List.set_cons_zero, List.set_cons_succ]
              refine' takeY (i := 7) (oi := _) (v := _) ?hib7 (by kernel_rfl) (by kernel_rfl) (by kernel_rfl) (fun _ _ _ h => h) ?hwb7 ?hyb7 hHeld ?restb7
              case hib7 => (simp only [List.getElem?_toArray, List.getElem?_cons_succ, List.getElem?_cons_zero]; rfl)
              case hwb7 => rfl
              case hyb7 => (intro w hSw; (try dsimp only at hSw); go_simp; try with_reducible rfl)
              try simp only [Act.put, List.setIfInBounds_toArray, List.set_cons_zero, List.set_cons_succ]
              refine' takeY (i := 8) (oi := _) (v := _) ?hib8 (by kernel_rfl) (by kernel_rfl) (by kernel_rfl) (fun _ _ _ h => h) ?hwb8 ?hyb8 hHeld ?restb8
              case hib8 => (simp only [List.getElem?_toArray, List.getElem?_cons_succ, List.getElem?_cons_zero]; rfl)
              case hwb8 => rfl
              case hyb8 => (intro w hSw; (try dsimp only at hSw); go_simp; try with_reducible rfl)
              try simp only [Act.put, List.setIfInBounds_toArray, List.set_cons_zero, List.set_cons_succ]
              refine' takeY (i := 9) (oi := _) (v := _) ?hib9 (by kernel_rfl) (by kernel_rfl) (by kernel_rfl) (fun _ _ _ h => h) ?hwb9 ?hyb9 hHeld ?restb9
              case hib9 => (simp only [List.getElem?_toArray, List.getElem?_cons_succ, List.getElem?_cons_zero]; rfl)
              case hwb9 => rfl
              case hyb9 => (intro w hSw; (try dsimp only at hSw); go_simp; try with_reducible rfl)
              try simp only [Act.put, List.setIfInBounds_toArray, List.set_cons_zero, List.set_cons_succ]
              refine' takeY (i := 10) (oi := _) (v := _) ?hib10 (by kernel_rfl) (by kernel_rfl) (by kernel_rfl) (fun _ _ _ h => h) ?hwb10 ?hyb10 hHeld ?restb10
              case hib10 => (simp only [List.getElem?_toArray, List.getElem?_cons_succ, List.getElem?_cons_zero]; rfl)
              case hwb10 => rfl
              case hyb10 => (intro w hSw; (try dsimp only at hSw); go_simp; try with_reducible rfl)
              try simp only [Act.put, List.setIfInBounds_toArray, List.set_cons_zero, List.set_cons_succ]
              refine' takeY (i := 11) (oi := _) (v := _) ?hib11 (by kernel_rfl) (by kernel_rfl) (by kernel_rfl) (fun _ _ _ h => h) ?hwb11 ?hyb11 hHeld ?restb11
              case hib11 => (simp only [List.getElem?_toArray, List.getElem?_cons_succ, List.getElem?_cons_zero]; rfl)
              case hwb11 => rfl
              case hyb11 => (intro w hSw; (try dsimp only at hSw); go_simp; try with_reducible rfl)
              try simp only [Act.put, List.setIfInBounds_toArray, List.set_cons_zero, List.set_cons_succ]
              refine' takeY (i := 12) (oi := _) (v := _) ?hib12 (by kernel_rfl) (by kernel_rfl) (by kernel_rfl) (fun _ _ _ h => h) ?hwb12 ?hyb12 hHeld ?restb12
              case hib12 => (simp only [List.getElem?_toArray, List.getElem?_cons_succ, List.getElem?_cons_zero]; rfl)
              case hwb12 => rfl
              case hyb12 => (intro w hSw; (try dsimp only at hSw); go_simp; try with_reducible rfl)
              try simp only [Act.put, List.setIfInBounds_toArray, List.set_cons_zero, List.set_cons_succ]
              refine' takeY (i := 13) (oi := _) (v := _) ?hib13 (by kernel_rfl) (by kernel_rfl) (by kernel_rfl) (fun _ _ _ h => h) ?hwb13 ?hyb13 hHeld ?restb13
              case hib13 => (simp only [List.getElem?_toArray, List.getElem?_cons_succ, List.getElem?_cons_zero]; rfl)
              case hwb13 => rfl
              case hyb13 => (intro w hSw; (try dsimp only at hSw); go_simp; try with_reducible rfl)
              try simp only [Act.put, List.setIfInBounds_toArray, List.set_cons_zero, List.set_cons_succ]
              refine' takeY (i := 14) (oi := _) (v := _) ?hib14 (by kernel_rfl) (by kernel_rfl) (by kernel_rfl) (fun _ _ _ h => h) ?hwb14 ?hyb14 hHeld ?restb14
              case hib14 => (simp only [List.getElem?_toArray, List.getElem?_cons_succ, List.getElem?_cons_zero]; rfl)
              case hwb14 => rfl
              case hyb14 => (intro w hSw; (try dsimp only at hSw); go_simp; try with_reducible rfl)
              try simp only [Act.put, List.setIfInBounds_toArray, List.set_cons_zero, List.set_cons_succ]
              refine' takeY (i := 15) (oi := _) (v := _) ?hib15 (by kernel_rfl) (by kernel_rfl) (by kernel_rfl) (fun _ _ _ h => h) ?hwb15 ?hyb15 hHeld ?restb15
              case hib15 => (simp only [List.getElem?_toArray, List.getElem?_cons_succ, List.getElem?_cons_zero]; rfl)
              case hwb15 => rfl
              case hyb15 => (intro w hSw; (try dsimp only at hSw); go_simp; try with_reducible rfl)
              try simp only [Act.put, List.setIfInBounds_toArray, List.set_cons_zero, List.set_cons_succ]
              refine' takeY (i := 16) (oi := _) (v := _) ?hib16 (by kernel_rfl) (by kernel_rfl) (by kernel_rfl) (fun _ _ _ h => h) ?hwb16 ?hyb16 hHeld ?restb16
              case hib16 => (simp only [List.getElem?_toArray, List.getElem?_cons_succ, List.getElem?_cons_zero]; rfl)
              case hwb16 => rfl
              case hyb16 => (intro w hSw; (try dsimp only at hSw); go_simp; try with_reducible rfl)
              try simp only [Act.put, List.setIfInBounds_toArray, List.set_cons_zero, List.set_cons_succ]
              refine wpAnyH_done (by kernel_rfl) ?_ _
              refine NoPanic.normal ?_
              clear KEPT BL hHeld
              obtain ⟨W1, hW1⟩ : ∃ W1, wr.drew = W1 := ⟨_, rfl⟩
              have y0 : W1.cell? ⟨bl, ol + i * 2, none⟩ = some (.int .i64 x) := by rw [← hW1]; exact XC.out
              have y1 : W1.cell? ⟨g, 0, none⟩ = some (.slice (some ⟨bl, ol, none⟩) len cap) := by rw [← hW1]; exact BC.out.cell 0
              rw [hW1] at HO HBE ⊢
              clear hW1
              have hsz := HBE.out.size
              go_wp2_with (first | (at_builtin; refine app_int rfl _ _ rfl wa.heap.size _ ns rfl (HO.out.alloc _) W1.heap.size x rfl (heap_alloc_new W1 _) (by simp; omega) (by (try simp); omega) ?_; intro v2 w2 hown2 hgrow2; have HO2 := Lib.hid hown2; have BE2 := Lib.hid (below_appF HBE.out HO.out hgrow2); clear hown2 hgrow2; have q0 := hb_cell BE2.out YW.out; have wa2 := BE2.out.size; have ns1 := nl) | (at_builtin; refine app_int rfl _ _ rfl wa.heap.size _ (ns ++ [x]) rfl (HO2.out.alloc _) w2.heap.size y rfl (heap_alloc_new w2 _) (by simp; omega) (by (try simp); omega) ?_; intro v3 w3 hown2 hgrow2; have HO3 := Lib.hid hown2; have BE3 := Lib.hid (below_appF BE2.out HO2.out hgrow2); clear hown2 hgrow2))
              go_roundw
              case rel => exact ⟨k + 1, true, ns ++ [x] ++ [y], by go_num, by omega, rfl, HO3.out, by rw [EQ.out, if_neg (by decide), if_pos rfl, ED.out, insI_put _ _ _ HF.out, List.append_assoc, List.append_assoc]; rfl, BE3.out⟩
              case measure => simp [intOf]; omega
            · have t1 : decide (x < y) = false := decide_eq_false f
              have HF := Lib.hid f
              clear f
              go_upto_region 10 with fail
              have HO := Lib.hid HO.out.drew
              have HBE := Lib.hid HBE.out.drew
              have BC := Lib.hid BC.out.drew
              have KEPT := Lib.hid (show ∀ w' : World, Below wr.drew.heap.size wr.drew w' → w'.cell? ⟨g, 0, none⟩ = some (.slice (some ⟨bl, ol, none⟩) len cap) ∧ w'.cell? ⟨bl, ol + i * 2, none⟩ = some (.int .i64 x) ∧ w'.cell? ⟨bo, oo + k, none⟩ = some (.int .i64 y) from fun w' h => ⟨(BC.out.below h).cell 0, hb_cell h XC.out, hb_cell h YC.out⟩)
              have BL := Lib.hid (Below.refl wr.drew.heap.size wr.drew)
              refine wp_region_noPanic ?_
              refine wp_region_held_drew (S := fun w' => w'.cell? ⟨g, 0, none⟩ = some (.slice (some ⟨bl, ol, none⟩) len cap) ∧ w'.cell? ⟨bl, ol + i * 2, none⟩ = some (.int .i64 x) ∧ w'.cell? ⟨bo, oo + k, none⟩ = some (.int .i64 y)) (by kernel_rfl) (KEPT.out _ BL.out) (fun hHeld => ?_)
              refine' takeY (i := 0) (oi := _) (v := _) ?hic0 (by kernel_rfl) (by kernel_rfl) (by kernel_rfl) (fun _ _ _ h => h) ?hwc0 ?hyc0 hHeld ?restc0
              case hic0 => (simp only [List.getElem?_toArray, List.getElem?_cons_zero]; rfl)
              case hwc0 => rfl
              case hyc0 => (intro w hSw; (try dsimp only at hSw); go_simp; try with_reducible rfl)
              try simp only [Act.put, List.setIfInBounds_toArray, List.set_cons_zero, List.set_cons_succ]
              refine' takeY (i := 1) (oi := _) (v := _) ?hic1 (by kernel_rfl) (by kernel_rfl) (by kernel_rfl) (fun _ _ _ h => h) ?hwc1 ?hyc1 hHeld ?restc1
              case hic1 => (simp only [List.getElem?_toArray, List.getElem?_cons_succ, List.getElem?_cons_zero]; rfl)
              case hwc1 => rfl
              case hyc1 => (intro w hSw; (try dsimp only at hSw); go_simp; try with_reducible rfl)
              try simp only [Act.put, List.setIfInBounds_toArray, List.set_cons_zero, List.set_cons_succ]
              refine' takeY (i := 2) (oi := _) (v := _) ?hic2 (by kernel_rfl) (by kernel_rfl) (by kernel_rfl) (fun _ _ _ h => h) ?hwc2 ?hyc2 hHeld ?restc2
              case hic2 => (simp only [List.getElem?_toArray, List.getElem?_cons_succ, List.getElem?_cons_zero]; rfl)
              case hwc2 => rfl
              case hyc2 => (intro w hSw; (try dsimp only at hSw); go_simp; try with_reducible rfl)
              try simp only [Act.put, List.setIfInBounds_toArray, List.set_cons_zero, List.set_cons_succ]
              refine' takeY (i := 3) (oi := _) (v := _) ?hic3 (by kernel_rfl) (by kernel_rfl) (by kernel_rfl) (fun _ _ _ h => h) ?hwc3 ?hyc3 hHeld ?restc3
              case hic3 => (simp only [List.getElem?_toArray, List.getElem?_cons_succ, List.getElem?_cons_zero]; rfl)
              case hwc3 => rfl
              case hyc3 => (intro w hSw; (try dsimp only at hSw); go_simp; try with_reducible rfl)
              try simp only [Act.put, List.setIfInBounds_toArray, List.set_cons_zero, List.set_cons_succ]
              refine' takeY (i := 4) (oi := _) (v := _) ?hic4 (by kernel_rfl) (by kernel_rfl) (by kernel_rfl) (fun _ _ _ h => h) ?hwc4 ?hyc4 hHeld ?restc4
              case hic4 => (simp only [List.getElem?_toArray, List.getElem?_cons_succ, List.getElem?_cons_zero]; rfl)
              case hwc4 => rfl
              case hyc4 => (intro w hSw; (try dsimp only at hSw); go_simp; try with_reducible rfl)
              try simp only [Act.put, List.setIfInBounds_toArray, List.set_cons_zero, List.set_cons_succ]
              refine' takeY (i := 5) (oi := _) (v := _) ?hic5 (by kernel_rfl) (by kernel_rfl) (by kernel_rfl) (fun _ _ _ h => h) ?hwc5 ?hyc5 hHeld ?restc5
              case hic5 => (simp only [List.getElem?_toArray, List.getElem?_cons_succ, List.getElem?_cons_zero]; rfl)
              case hwc5 => rfl
              case hyc5 => (intro w hSw; (try dsimp only at hSw); go_simp; try with_reducible rfl)
              try simp only [Act.put, List.setIfInBounds_toArray, List.set_cons_zero, List.set_cons_succ]
              refine' takeY (i := 6) (oi := _) (v := _) ?hic6 (by kernel_rfl) (by kernel_rfl) (by kernel_rfl) (fun _ _ _ h => h) ?hwc6 ?hyc6 hHeld ?restc6
              case hic6 => (simp only [List.getElem?_toArray, List.getElem?_cons_succ, List.getElem?_cons_zero]; rfl)
              case hwc6 => rfl
              case hyc6 => (intro w hSw; (try dsimp only at hSw); go_simp; try with_reducible rfl)
              try simp only [Act.put, List.setIfInBounds_toArray, List.set_cons_zero, List.set_cons_succ]
              refine' takeY (i := 7) (oi := _) (v := _) ?hic7 (by kernel_rfl) (by kernel_rfl) (by kernel_rfl) (fun _ _ _ h => h) ?hwc7 ?hyc7 hHeld ?restc7
              case hic7 => (simp only [List.getElem?_toArray, List.getElem?_cons_succ, List.getElem?_cons_zero]; rfl)
              case hwc7 => rfl
              case hyc7 => (intro w hSw; (try dsimp only at hSw); go_simp; try with_reducible rfl)
              try simp only [Act.put, List.setIfInBounds_toArray, List.set_cons_zero, List.set_cons_succ]
              refine' takeY (i := 8) (oi := _) (v := _) ?hic8 (by kernel_rfl) (by kernel_rfl) (by kernel_rfl) (fun _ _ _ h => h) ?hwc8 ?hyc8 hHeld ?restc8
              case hic8 => (simp only [List.getElem?_toArray, List.getElem?_cons_succ, List.getElem?_cons_zero]; rfl)
              case hwc8 => rfl
              case hyc8 => (intro w hSw; (try dsimp only at hSw); go_simp; try with_reducible rfl)
              try simp only [Act.put, List.setIfInBounds_toArray, List.set_cons_zero, List.set_cons_succ]
              refine' takeY (i := 9) (oi := _) (v := _) ?hic9 (by kernel_rfl) (by kernel_rfl) (by kernel_rfl) (fun _ _ _ h => h) ?hwc9 ?hyc9 hHeld ?restc9
              case hic9 => (simp only [List.getElem?_toArray, List.getElem?_cons_succ, List.getElem?_cons_zero]; rfl)
              case hwc9 => rfl
              case hyc9 => (intro w hSw; (try dsimp only at hSw); go_simp; try with_reducible rfl)
              try simp only [Act.put, List.setIfInBounds_toArray, List.set_cons_zero, List.set_cons_succ]
              refine' takeY (i := 10) (oi := _) (v := _) ?hic10 (by kernel_rfl) (by kernel_rfl) (by kernel_rfl) (fun _ _ _ h => h) ?hwc10 ?hyc10 hHeld ?restc10
              case hic10 => (simp only [List.getElem?_toArray, List.getElem?_cons_succ, List.getElem?_cons_zero]; rfl)
              case hwc10 => rfl
              case hyc10 => (intro w hSw; (try dsimp only at hSw); go_simp; try with_reducible rfl)
              try simp only [Act.put, List.setIfInBounds_toArray, List.set_cons_zero, List.set_cons_succ]
              refine' takeY (i := 11) (oi := _) (v := _) ?hic11 (by kernel_rfl) (by kernel_rfl) (by kernel_rfl) (fun _ _ _ h => h) ?hwc11 ?hyc11 hHeld ?restc11
              case hic11 => (simp only [List.getElem?_toArray, List.getElem?_cons_succ, List.getElem?_cons_zero]; rfl)
              case hwc11 => rfl
              case hyc11 => (intro w hSw; (try dsimp only at hSw); go_simp; try with_reducible rfl)
              try simp only [Act.put, List.setIfInBounds_toArray, List.set_cons_zero, List.set_cons_succ]
              refine' takeY (i := 12) (oi := _) (v := _) ?hic12 (by kernel_rfl) (by kernel_rfl) (by kernel_rfl) (fun _ _ _ h => h) ?hwc12 ?hyc12 hHeld ?restc12
              case hic12 => (simp only [List.getElem?_toArray, List.getElem?_cons_succ, List.getElem?_cons_zero]; rfl)
              case hwc12 => rfl
              case hyc12 => (intro w hSw; (try dsimp only at hSw); go_simp; try with_reducible rfl)
              try simp only [Act.put, List.setIfInBounds_toArray, List.set_cons_zero, List.set_cons_succ]
              refine' takeY (i := 13) (oi := _) (v := _) ?hic13 (by kernel_rfl) (by kernel_rfl) (by kernel_rfl) (fun _ _ _ h => h) ?hwc13 ?hyc13 hHeld ?restc13
              case hic13 => (simp only [List.getElem?_toArray, List.getElem?_cons_succ, List.getElem?_cons_zero]; rfl)
              case hwc13 => rfl
              case hyc13 => (intro w hSw; (try dsimp only at hSw); go_simp; try with_reducible rfl)
              try simp only [Act.put, List.setIfInBounds_toArray, List.set_cons_zero, List.set_cons_succ]
              refine' takeY (i := 14) (oi := _) (v := _) ?hic14 (by kernel_rfl) (by kernel_rfl) (by kernel_rfl) (fun _ _ _ h => h) ?hwc14 ?hyc14 hHeld ?restc14
              case hic14 => (simp only [List.getElem?_toArray, List.getElem?_cons_succ, List.getElem?_cons_zero]; rfl)
              case hwc14 => rfl
              case hyc14 => (intro w hSw; (try dsimp only at hSw); go_simp; try with_reducible rfl)
              try simp only [Act.put, List.setIfInBounds_toArray, List.set_cons_zero, List.set_cons_succ]
              refine' takeY (i := 15) (oi := _) (v := _) ?hic15 (by kernel_rfl) (by kernel_rfl) (by kernel_rfl) (fun _ _ _ h => h) ?hwc15 ?hyc15 hHeld ?restc15
              case hic15 => (simp only [List.getElem?_toArray, List.getElem?_cons_succ, List.getElem?_cons_zero]; rfl)
              case hwc15 => rfl
              case hyc15 => (intro w hSw; (try dsimp only at hSw); go_simp; try with_reducible rfl)
              try simp only [Act.put, List.setIfInBounds_toArray, List.set_cons_zero, List.set_cons_succ]
              refine' takeY (i := 16) (oi := _) (v := _) ?hic16 (by kernel_rfl) (by kernel_rfl) (by kernel_rfl) (fun _ _ _ h => h) ?hwc16 ?hyc16 hHeld ?restc16
              case hic16 => (simp only [List.getElem?_toArray, List.getElem?_cons_succ, List.getElem?_cons_zero]; rfl)
              case hwc16 => rfl
              case hyc16 => (intro w hSw; (try dsimp only at hSw); go_simp; try with_reducible rfl)
              try simp only [Act.put, List.setIfInBounds_toArray, List.set_cons_zero, List.set_cons_succ]
              refine wpAnyH_done (by kernel_rfl) ?_ _
              refine NoPanic.normal ?_
              clear KEPT BL hHeld
              obtain ⟨W1, hW1⟩ : ∃ W1, wr.drew = W1 := ⟨_, rfl⟩
              have y0 : W1.cell? ⟨bo, oo + k, none⟩ = some (.int .i64 y) := by rw [← hW1]; exact YC.out
              rw [hW1] at HO HBE ⊢
              clear hW1
              have hsz := HBE.out.size
              go_wp2_with (at_builtin; refine app_int rfl _ _ rfl wa.heap.size _ ns rfl (HO.out.alloc _) W1.heap.size y rfl (heap_alloc_new W1 _) (by simp; omega) (by (try simp); omega) ?_; intro v2 w2 hown2 hgrow2; have HO2 := Lib.hid hown2; have BE2 := Lib.hid (below_appF HBE.out HO.out hgrow2); clear hown2 hgrow2)
              go_roundw
              case rel => exact ⟨k + 1, false, ns ++ [y], by go_num, by omega, rfl, HO2.out, by rw [EQ.out, if_neg (by decide), if_neg (by decide), ED.out, insI_on _ _ _ HF.out, List.append_assoc]; rfl, BE2.out⟩
              case measure => simp [intOf]; omega
        have b3 : decide (k < i) = false := by simp; omega
        have b4 : decide ((k : Int) < (i : Int)) = false := by simp; omega
        have ED := Lib.hid (show out.drop k = [] from List.drop_eq_nil_of_le (by rw [OL.out]; omega))
        cases b with
        | true =>
          obtain ⟨a', cap', hv, hrow, hfr⟩ := row_of_owns HO.out
          have NL := Lib.hid (show ns.length = i + 1 by have := congrArg List.length EQ.out; rw [insI_len, OL.out, if_pos rfl, ED.out, List.append_nil] at this; omega)
          rw [NL.out] at hv hrow
          subst hv
          have RN := Lib.hid hrow
          have FN := Lib.hid hfr
          clear hrow hfr
          go_wp2
          go_roundw
          case rel => exact ⟨i + 1, a', cap', by go_num, by omega, rfl, by rw [ET.out, EQ.out, if_pos rfl, ED.out, List.append_nil]; exact RN.out, FN.out.mono B.out.size, below_next B.out HBE.out⟩
          case measure => simp [intOf]; omega
        | false =>
          have y0 := XC.out
          have y1 := BC.out.cell 0
          simp only [List.getElem?_toArray, List.getElem?_cons_zero] at y1
          have NL := Lib.hid (show (ns ++ [x]).length = i + 1 by have := congrArg List.length EQ.out; rw [insI_len, OL.out, if_neg (by decide), ED.out] at this; exact this.symm)
          go_wp2_with (at_builtin; refine app_int rfl _ _ rfl wa.heap.size _ ns rfl (HO.out.alloc _) wr.heap.size x rfl (heap_alloc_new wr _) (by simp; omega) (by omega) ?_; intro v2 w2 hown2 hgrow2; obtain ⟨a', cap', hv, hrow, hfr⟩ := row_of_owns hown2; rw [NL.out] at hv hrow; subst hv; have RN := Lib.hid hrow; have FN := Lib.hid hfr; have BE2 := Lib.hid (below_appF HBE.out HO.out hgrow2); clear hown2 hgrow2 hrow hfr)
          go_roundw
          case rel => exact ⟨i + 1, a', cap', by go_num, by omega, rfl, by rw [ET.out, EQ.out, if_neg (by decide), ED.out]; exact RN.out, FN.out.mono B.out.size, below_next B.out BE2.out⟩
          case measure => simp [intOf]; omega
    have b1 : decide (i < len) = false := by simp; omega
    have b2 : decide ((i : Int) < (len : Int)) = false := by simp; omega
    have EF := Lib.hid (show ts.take i = ts from List.take_of_length_le (by rw [LN.out]; omega))
    go_wp2
    go_ret
    exact ⟨_, _, _, _, rfl, RO.out, by rw [EF.out], B.out, FO.out⟩
set_option maxHeartbeats 2000000 in
/-- of two rows that are the same it tells so -/
theorem r7same_yes (a b : Option Addr) (len ca cb : Nat) (zs : List Int) (w : World) (ha : Row .i64 w a len ca zs) (hb : Row .i64 w b len cb zs) :
    Calls Try.prog 21 #[.slice a len ca, .slice b len cb] w fun e w' => e = .returned (.bool true) ∧ Below w.heap.size w w' := by
  have HA := Lib.hid ha
  have HB := Lib.hid hb
  have ⟨c1, c2⟩ := ha.cap_le
  clear ha hb
  go_enter Try.func21, Try.ntmps21
  go_wp2
  go_loopw [5] (fun u wr => ∃ (i : Nat), u = .int .i64 i ∧ i ≤ len ∧ Below w.heap.size w wr) (fun u _ => len - (intOf u).toNat)
  case atStart => exact ⟨0, rfl, by omega, Below.refl _ _⟩
  case round =>
    obtain ⟨i, rfl, il, hbel⟩ := hrel
    have B := Lib.hid hbel
    clear hbel
    by_cases go : i < len
    · have b1 : decide (i < len) = true := by simp; omega
      have b2 : decide ((i : Int) < (len : Int)) = true := by simp; omega
      obtain ⟨bl, ol, rfl, hat⟩ := HA.out.cell go
      obtain ⟨bo, oo, rfl, hbt⟩ := HB.out.cell go
      obtain ⟨x, hx⟩ : ∃ x, zs.getD i 0 = x := ⟨_, rfl⟩
      rw [hx] at hat hbt
      have XW := Lib.hid hat
      have YW := Lib.hid hbt
      clear hx hat hbt
      have i1 : (i : Int) < (len : Int) := by omega
      have i2 : 0 ≤ (i : Int) := by omega
      go_upto_region 6 with fail
      have KEPT := Lib.hid (show ∀ w' : World, Below w.heap.size w w' → w'.cell? ⟨bl, ol + i, none⟩ = some (.int .i64 x) ∧ w'.cell? ⟨bo, oo + i, none⟩ = some (.int .i64 x) from fun w' h => ⟨hb_cell h XW.out, hb_cell h YW.out⟩)
      have BL := Lib.hid B.out.drew
      go_region_held3 (fun w' => w'.cell? ⟨bl, ol + i, none⟩ = some (.int .i64 x) ∧ w'.cell? ⟨bo, oo + i, none⟩ = some (.int .i64 x))
        (exact KEPT.out _ BL.out)
        (fail)
      all_goals
        go_wp2
        go_roundw
        case rel => exact ⟨i + 1, by go_num, by omega, BL.out⟩
        case measure => simp [intOf]; omega
    · have b1 : decide (i < len) = false := by simp; omega
      have b2 : decide ((i : Int) < (len : Int)) = false := by simp; omega
      go_wp2
      go_ret
      exact ⟨rfl, B.out⟩
end Go.Proofs.Ytimafmalfmeehaa
