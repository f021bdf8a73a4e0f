/-
  Package wire's write, of commands that may be: contract.
-/
import Derived.Test.YtlcagjmppmajeaaWqe
namespace Go.Proofs.Ytlcagjmppmajeaa
open Go.RowKit

/-- a row of bytes of one's own -/
def bys (L : List UInt8) : List Value := L.map fun b => Value.int .u8 b.toNat
def OB (B : Nat) (w : World) (v : Value) (L : List UInt8) : Prop := w.ownsRow B 5 1 v L.length (bys L)
theorem OB.below {B : Nat} {w w' : World} {v : Value} {L : List UInt8} (h : OB B w v L) (hb : Below w.heap.size w w') : OB B w' v L := owns_below h hb
theorem OB.lt {B : Nat} {w : World} {v : Value} {L : List UInt8} (h : OB B w v L) {k : Nat} (e : v.ownBlock = some k) : B ≤ k ∧ k < w.heap.size := World.ownsRow.lt h k e
theorem OB.nil (B : Nat) (w : World) : OB B w (.slice none 0 0) [] := World.ownsRow_nil _ _ _ _
theorem OB.keeps {B : Nat} {w w' : World} {v : Value} {L : List UInt8} {F : Nat → Prop} (h : OB B w v L) (k : Keeps F w w') (hF : ∀ g, v.ownBlock = some g → ¬ F g) : OB B w' v L := owns_keeps h k hF
theorem bys_len (L : List UInt8) : (bys L).length = L.length := by unfold bys; simp
/-- append of one byte to what is owned -/
theorem app_byte {w : World} {ops : Array Oper} {rest : List Oper} {o : Oper} {act : Act} {Q : Exit → Act → World → Prop} (hgd : o.guard = none) (s x : Operand)
    (ho : o.op = .call { callee := .builtin .append, args := #[s, x], argTypes := #[30, 30] }) (base : Nat)
    (v : Value) (L : List UInt8) (hs : act.eval s = v) (hown : OB base w v L) (g : Nat) (c : UInt8) (z : Int) (hc : (c.toNat : Int) = z) (hx : act.eval x = .slice (some ⟨g, 0, none⟩) 1 1)
    (hg : w.heap[g]? = some (.cells #[.int .u8 z] 5 (0, 0))) (hb : base ≤ w.heap.size) (hsm : L.length ≤ 1000000000)
    (h : ∀ v' w', OB base w' v' (L ++ [c]) → w.grownBy w' v.ownBlock → (v'.ownBlock = v.ownBlock ∨ v'.ownBlock = some w.heap.size) → wpList Try.prog ops Q rest (act.put o.dst v') w') : wpList Try.prog ops Q (o :: rest) act w := by
  subst hc
  obtain ⟨i0, hi, hz0, hz1, hz2⟩ := info_parts Try.infoB
  refine wpList_append_lies _ hgd s x _ ho base _ i0 _ 1 1 Try.underlying30 hi hz0 hz1 hz2 rfl (by decide) v _ _ hs hown ⟨g, 0, none⟩ 1 1 [.int .u8 c.toNat] hx rfl (World.news_of_block (cs := #[.int .u8 c.toNat]) (t := 5) (fr := (0, 0)) hg) (by simp [Value.oneCell']) (by decide) (by unfold maxLen; omega) (by omega) hb w.heap.size rfl ?_
  intro g' cap w2 ho2 hg2 hl _
  refine h _ w2 ?_ hg2 ?_
  · unfold OB bys
    rw [List.length_append, List.map_append]
    exact ho2
  · rcases hl with q | q
    · exact .inl q.symm
    · exact .inr (by rw [q]; rfl)
theorem app_byteIn {F : Fence} {n : Nat} {w : World} {ops : Array Oper} {rest : List Oper} {o : Oper} {act : Act} {Q : Exit → Act → World → Prop} (hgd : o.guard = none) (s x : Operand)
    (ho : o.op = .call { callee := .builtin .append, args := #[s, x], argTypes := #[30, 30] }) (base : Nat)
    (v : Value) (L : List UInt8) (hs : act.eval s = v) (hown : OB base w v L) (g : Nat) (c : UInt8) (z : Int) (hc : (c.toNat : Int) = z) (hx : act.eval x = .slice (some ⟨g, 0, none⟩) 1 1)
    (hg : w.heap[g]? = some (.cells #[.int .u8 z] 5 (0, 0))) (hb : base ≤ w.heap.size) (hsm : L.length ≤ 1000000000)
    (h : ∀ v' w', OB base w' v' (L ++ [c]) → w.grownBy w' v.ownBlock → (v'.ownBlock = v.ownBlock ∨ v'.ownBlock = some w.heap.size) → wpListIn F n Try.prog ops Q rest (act.put o.dst v') w') : wpListIn F n Try.prog ops Q (o :: rest) act w := by
  subst hc
  obtain ⟨i0, hi, hz0, hz1, hz2⟩ := info_parts Try.infoB
  refine wpListIn_append_own_at _ hgd s x _ ho base _ i0 _ 1 1 Try.underlying30 hi hz0 hz1 hz2 rfl (by decide) v _ _ hs hown ⟨g, 0, none⟩ 1 1 [.int .u8 c.toNat] hx rfl (World.news_of_block (cs := #[.int .u8 c.toNat]) (t := 5) (fr := (0, 0)) hg) (by simp [Value.oneCell']) (by unfold maxLen; omega) (by omega) hb ?_
  intro v2 w2 ho2 hg2 _ hat
  refine h v2 w2 ?_ hg2 hat
  unfold OB bys
  rw [List.length_append, List.map_append]
  exact ho2
/-- what writing gives: the bytes, in the row of old or a new one -/
structure WB (B : Nat) (w : World) (vb : Value) (L : List UInt8) (v : Value) (w' : World) : Prop where
  own : OB B w' v L
  keeps : Keeps (fun k => vb.ownBlock = some k) w w'
  blk : ∀ k, v.ownBlock = some k → vb.ownBlock = some k ∨ w.heap.size ≤ k
def Wrote (B : Nat) (w : World) (vb : Value) (L : List UInt8) (e : Ending) (w' : World) : Prop := ∃ v, e = .returned v ∧ WB B w vb L v w'
theorem num_split {m : Nat} (h : 128 ≤ m) : num m = bt ((m % 128 : Nat) + 128 : Int) :: num (m / 128) := by rw [num, if_neg (by omega)]
theorem num_last {m : Nat} (h : m < 128) : num m = [bt m] := by rw [num, if_pos h]
theorem OB.slice {B : Nat} {w : World} {v : Value} {L : List UInt8} (h : OB B w v L) : ∃ a cap, v = .slice a L.length cap := slice_own h

theorem OB.slice3 {B : Nat} {w : World} {v : Value} {L : List UInt8} (h : OB B w v L) : ∃ a n cap, v = .slice a n cap := by
  obtain ⟨a, cap, e⟩ := slice_own h
  exact ⟨a, _, cap, e⟩
/-- a round's state: the bytes so far, in the box bx; what may be written -/
structure WrS (B : Nat) (w : World) (vb : Value) (bx : Nat) (W : World) (v : Value) (L : List UInt8) (wr : World) (v' : Value) : Prop where
  box : Blk wr 30 bx #[v']
  row : OB B wr v' L
  mv : Moves (FB bx v) (FB bx v') W wr
  oth : KeepsOthers W wr
  kp : Keeps (fun k => vb.ownBlock = some k) w wr
  own : ∀ k, v'.ownBlock = some k → vb.ownBlock = some k ∨ bx + 2 ≤ k
theorem WrS.ne {B : Nat} {w : World} {vb : Value} {bx : Nat} {W : World} {v : Value} {L : List UInt8} {wr : World} {v' : Value} (h : WrS B w vb bx W v L wr v') (hv : ∀ k, vb.ownBlock = some k → k < bx) : v'.ownBlock ≠ some bx := fun e => by
  rcases h.own _ e with q | q
  · have := hv _ q; omega
  · omega
theorem WrS.add {B : Nat} {w : World} {vb : Value} {bx : Nat} {W : World} {v : Value} {L : List UInt8} {wr w2 : World} {v' v2 : Value} {c : UInt8} {o : Obj} (h : WrS B w vb bx W v L wr v') (hv : ∀ k, vb.ownBlock = some k → k < bx) (hbx : w.heap.size ≤ bx)
    (h1 : OB B w2 v2 (L ++ [c])) (h2 : (wr.alloc o).grownBy w2 v'.ownBlock) (h3 : v2.ownBlock = v'.ownBlock ∨ v2.ownBlock = some (wr.alloc o).heap.size) :
    WrS B w vb bx W v (L ++ [c]) (w2.setCell ⟨bx, 0, none⟩ v2) v2 ∧ Blk w2 30 bx #[v'] := by
  have X2 : Blk w2 30 bx #[v'] := (h2.block _ (Nat.lt_of_lt_of_le h.box.lt (wbox wr o).size) (fun e => h.ne hv e.symm)).trans (h.box.alloc o)
  have ow : ∀ k, v2.ownBlock = some k → vb.ownBlock = some k ∨ bx + 2 ≤ k := fun k e => by
    rcases h3 with q | q
    · exact h.own k (q ▸ e)
    · rw [q] at e
      cases e
      have := h.box.lt
      simp
      omega
  refine ⟨⟨set_blk X2 _, ?_, h.mv.trans (moves_app h.box h2 h3 h1 _), ?_, ?_, ow⟩, X2⟩
  · refine h1.keeps ((Keeps.refl (fun k => k = bx) w2).set (.inl rfl) _ _) (fun g e q => ?_)
    rcases ow g e with z | z
    · have := hv _ z; omega
    · omega
  · exact ((h.oth.trans (others_alloc wr o)).trans (others_row (owns_below h.row (wbox wr o)) h2)).trans (KeepsOthers.setCell _ _ _)
  · exact ((h.kp.alloc o).grown h2 (fun k e => (h.own k e).imp id fun q => by omega)).set (.inr hbx) _ _
theorem five_len : ∀ zs : List Int, (∀ z ∈ zs, z ≤ 1073741824) → (zs.flatMap numI).length ≤ 5 * zs.length
  | [], _ => by simp
  | z :: zs, h => by
    have h1 := five_len zs fun x hx => h x (List.mem_cons_of_mem _ hx)
    have h2 : (numI z).length ≤ 5 := num_short 4 (by have := h z List.mem_cons_self; omega)
    rw [List.flatMap_cons, List.length_append, List.length_cons]
    omega

section
attribute [local go_sem] Oper.semAt_some
set_option maxRecDepth 100000 in
set_option maxHeartbeats 4000000 in
theorem wwrite_any (B : Nat) (vb : Value) (L : List UInt8) (c : Cm) (v : Value) (w : World) (ho : OB B w vb L) (h : MayC c) (hp : PartsAt w v c.parts) (hne : ∀ a len cap, v = .slice a len cap → ∀ ad : Addr, a = some ad → vb.ownBlock ≠ some ad.block) (hB : B ≤ w.heap.size) (hl : L.length ≤ 900000000) :
    Calls Try.prog 16 #[vb, cmV c v] w (Wrote B w vb (L ++ encC c)) := by
  have HO := Lib.hid ho
  have MC := Lib.hid h
  have HP := Lib.hid hp
  have NE := Lib.hid hne
  have HL := Lib.hid hl
  have FT := Lib.hid h.facts
  have HB := Lib.hid hB
  obtain ⟨a, cap, hv, -⟩ := hp
  obtain ⟨ab, cb, hvb⟩ := ho.slice
  subst hv hvb
  have k1 := h.lo
  have k7 := h.hi
  obtain ⟨k, id, sv, m, co, e, p, early, parts⟩ := c
  simp only at k1 k7
  have wk : IntKind.u8.wrap k = k := by show k % 256 = k; omega
  obtain ⟨W1, hW1⟩ : ∃ W1, (w.alloc (.cells #[.slice ab L.length cb] 30)).alloc (.cells #[.int .i64 k, .int .i64 id, .int .i64 sv, .int .i64 m, .int .i64 co, .int .i64 e, .int .i64 p, .bool early, .slice a parts.length cap] 37) = W1 := ⟨_, rfl⟩
  have B1 := Lib.hid (show Below w.heap.size w W1 by rw [← hW1]; exact wbox2 _ _ _)
  have Z1 := Lib.hid (show W1.heap.size = w.heap.size + 2 by rw [← hW1]; simp)
  have X1 := Lib.hid (show Blk W1 30 w.heap.size #[.slice ab L.length cb] by rw [← hW1]; exact (Blk.new _ _ _).alloc _)
  have Y1 := Lib.hid (show Blk W1 37 (w.heap.size + 1) #[.int .i64 k, .int .i64 id, .int .i64 sv, .int .i64 m, .int .i64 co, .int .i64 e, .int .i64 p, .bool early, .slice a parts.length cap] by rw [← hW1]; exact Blk.new2 _ _ _ _)
  have HW1 := Lib.hid hW1
  clear ho h hne hB hl hW1
  refine (callsIn_wide (n := 3)).1 ?_
  refine callsIn_of_wp_marks Try.func16 rfl trivial ?_ rfl
  simp only [Try.ntmps16, List.size_toArray, List.length_cons, List.length_nil, Nat.reduceAdd, Nat.reduceSub, Array.replicate_succ, Array.replicate_zero, List.push_toArray, List.append_toArray, List.nil_append, List.cons_append]
  refine wpIn_wide.2 ?_
  go_upto_region 1 with fail
  rw [HW1.out]
  have YC := fun j => Y1.out.cell j
  have y0 := YC 0; have y1 := YC 1; have y2 := YC 2; have y3 := YC 3; have y4 := YC 4; have y5 := YC 5; have y6 := YC 6; have y7 := YC 7; have y8 := YC 8
  simp at y0 y1 y2 y3 y4 y5 y6 y7 y8
  clear YC
  go_wp2_with fail
  refine (wcheck_yes ⟨k, id, sv, m, co, e, p, early, parts⟩ (.slice a parts.length cap) W1 MC.out (HP.out.below B1.out)).mono ?_
  rintro e1 W2 ⟨rfl, hb⟩
  have B2 := Lib.hid (below_next B1.out hb)
  have X2 := Lib.hid (X1.out.below hb)
  have Y2 := Lib.hid (Y1.out.below hb)
  have O2 := Lib.hid (HO.out.below B2.out)
  clear hb y0 y1 y2 y3 y4 y5 y6 y7 y8
  have x0 := X2.out.cell 0
  have f0 := X2.out.free 0
  have y0 := Y2.out.cell 0
  simp at x0 y0
  have bx2 := X2.out.lt
  go_upto_region 4 with (at_builtin; refine app_byte rfl _ _ rfl B _ L rfl (O2.out.below (wbox _ _)) W2.heap.size (bt k) k (bt_toNat (by omega) (by omega)) rfl (heap_alloc_new W2 _) (Nat.le_trans HB.out (Nat.le_trans B2.out.size (wbox W2 _).size)) (by have := HL.out; omega) ?_; intro v' w' h1 h2 h3; obtain ⟨a3, cap3, rfl⟩ := h1.slice; have O3 := Lib.hid h1; have G3 := Lib.hid h2; have T3 := Lib.hid h3; have X3 := Lib.hid (show Blk w' 30 w.heap.size #[.slice ab L.length cb] from (h2.block _ (Nat.lt_of_lt_of_le bx2 (wbox W2 _).size) (fun e => by have := (HO.out.lt e.symm).2; omega)).trans (X2.out.alloc _)); clear h1 h2 h3; have c3 := X3.out.cell 0; have g3 := X3.out.free 0; simp at c3)
  clear c3 g3 x0 f0 y0
  have e1 : Value.slice a3 (L.length + 1) cap3 = Value.slice a3 (L ++ [bt k]).length cap3 := by rw [List.length_append, List.length_singleton]
  try rw [e1]
  obtain ⟨L1, hL1⟩ : ∃ L1, L ++ [bt k] = L1 := ⟨_, rfl⟩
  rw [hL1] at O3 T3 ⊢
  obtain ⟨W4, hW4⟩ : ∃ W4, w'.setCell ⟨w.heap.size, 0, none⟩ (.slice a3 L1.length cap3) = W4 := ⟨_, rfl⟩
  have T4 := Lib.hid (show ∀ k, (Value.slice a3 L1.length cap3).ownBlock = some k → (Value.slice ab L.length cb).ownBlock = some k ∨ w.heap.size + 2 ≤ k from fun k e => by
    rcases T3.out with q | q
    · exact .inl (q ▸ e)
    · rw [q] at e
      cases e
      have := B2.out.size
      have := bx2
      have h1 := Z1.out
      have h2 := Y2.out.lt
      simp
      omega)
  have N4 := Lib.hid (show (Value.slice a3 L1.length cap3).ownBlock ≠ some w.heap.size from fun e => by
    rcases T4.out _ e with q | q
    · have := (HO.out.lt q).2; omega
    · omega)
  have X4 := Lib.hid (show Blk W4 30 w.heap.size #[.slice a3 L1.length cap3] by rw [← hW4]; exact set_blk X3.out _)
  have O4 := Lib.hid (show OB B W4 (.slice a3 L1.length cap3) L1 by rw [← hW4]; exact O3.out.keeps ((Keeps.refl (fun k => k = w.heap.size) w').set (.inl rfl) _ _) (fun g e q => N4.out (q ▸ e)))
  have KW := Lib.hid (show Keeps (fun k => (Value.slice ab L.length cb).ownBlock = some k) W2 w' from (Keeps.refl _ W2).alloc _ |>.grown G3.out (fun k e => .inl e))
  have Y4 := Lib.hid (show Blk W4 37 (w.heap.size + 1) #[.int .i64 k, .int .i64 id, .int .i64 sv, .int .i64 m, .int .i64 co, .int .i64 e, .int .i64 p, .bool early, .slice a parts.length cap] by rw [← hW4]; exact far_blk (Y2.out.keeps KW.out (fun e => by have := (HO.out.lt e).2; omega)) (by simp) _)
  have K4 := Lib.hid (show Keeps (fun k => (Value.slice ab L.length cb).ownBlock = some k) w W4 by rw [← hW4]; exact ((Keeps.of (F := fun k => (Value.slice ab L.length cb).ownBlock = some k) B2.out).trans KW.out (fun _ q => .inl q)).set (.inr (Nat.le_refl _)) _ _)
  have P4 := Lib.hid (show PartsAt W4 (.slice a parts.length cap) parts by
    obtain ⟨a9, cap9, e9, hr9⟩ := HP.out
    cases e9
    exact ⟨a, cap, rfl, hr9.keeps K4.out (fun ad e q => NE.out _ _ _ rfl ad e q)⟩)
  have HW4 := Lib.hid hW4
  rw [hW4]
  clear hW4 O3 T3 G3 X3 KW e1
  have y0 := Y4.out.cell 0; have y1 := Y4.out.cell 1; have y2 := Y4.out.cell 2; have y3 := Y4.out.cell 3; have y4 := Y4.out.cell 4; have y5 := Y4.out.cell 5; have y6 := Y4.out.cell 6; have y7 := Y4.out.cell 7; have y8 := Y4.out.cell 8
  simp at y0 y1 y2 y3 y4 y5 y6 y7 y8
  go_wp2_with fail
  refine (wfields_any ⟨k, id, sv, m, co, e, p, early, parts⟩ (.slice a parts.length cap) W4).mono ?_
  rintro e5 W5 ⟨rfl, hW5⟩
  have G5 := Lib.hid (show ∀ n, GivesM n Try.prog 30 #[.pointer (some ⟨W4.heap.size, 0, none⟩)] enc1 (fieldsV ⟨k, id, sv, m, co, e, p, early, parts⟩) (ApC W4.heap.size (.slice a parts.length cap)) W5 from fun n => by
    rw [hW5]
    exact wfields_gives n ⟨k, id, sv, m, co, e, p, early, parts⟩ (.slice a parts.length cap) _ _ (Blk.new _ _ _) (P4.out.below (wbox _ _)) MC.out.lo MC.out.hi FT.out.s0 FT.out.s1 FT.out.p8)
  have B5 := Lib.hid (show Below W4.heap.size W4 W5 by rw [hW5]; exact wbox _ _)
  have Z5 := Lib.hid (show W5.heap.size = W4.heap.size + 1 by rw [hW5]; simp)
  have X5 := Lib.hid (X4.out.below B5.out)
  have O5 := Lib.hid (O4.out.below B5.out)
  have K5 := Lib.hid (K4.out.next B5.out)
  clear hW5 y0 y1 y2 y3 y4 y5 y6 y7 y8
  go_wp2_with fail
  have RNG := Lib.hid (show ∀ z ∈ fieldsV ⟨k, id, sv, m, co, e, p, early, parts⟩, 0 ≤ z ∧ z ≤ 1073741824 by
    obtain ⟨vs, hf, _, hfs, _⟩ := FT.out.vs
    intro z hz
    rw [hfs] at hz
    obtain ⟨i, hi, rfl⟩ := List.mem_map.mp hz
    have h1 := hf i (List.mem_range.mp hi)
    have h2 := mostC_le k i
    exact ⟨h1.1, Int.le_trans h1.2 h2⟩)
  have VL := Lib.hid (show ∀ k, (Value.slice ab L.length cb).ownBlock = some k → k < w.heap.size from fun k e => (HO.out.lt e).2)
  have L1L := Lib.hid (show L1.length ≤ 900000001 by rw [← hL1, List.length_append, List.length_singleton]; have := HL.out; omega)
  have EN := Lib.hid (show L ++ encC ⟨k, id, sv, m, co, e, p, early, parts⟩ = L1 ++ (fieldsV ⟨k, id, sv, m, co, e, p, early, parts⟩).flatMap numI by
    rw [← hL1]
    unfold encC numI
    simp only
    rw [num_last (show k.toNat < 128 by omega), show ((k.toNat : Nat) : Int) = k by omega]
    simp)
  obtain ⟨fs, hfs⟩ : ∃ fs, fieldsV ⟨k, id, sv, m, co, e, p, early, parts⟩ = fs := ⟨_, rfl⟩
  rw [hfs] at G5 RNG EN
  have W45 := Lib.hid (show w.heap.size + 2 ≤ W4.heap.size by have := Y4.out.lt; omega)
  clear hfs hL1
  refine (wpIn_wide (n := 3)).1 ?_
  refine rangeFunc_moves (by omega) (gf := 30) (cp := #[.pointer (some ⟨W4.heap.size, 0, none⟩)]) rfl (enters_of Try.func30 (by kernel_rfl) rfl) (G5.out _) (Below.refl _ _) (fun _ => rfl)
    (fun F pre W => ∃ v, F = FB w.heap.size v ∧ Blk W 30 w.heap.size #[v] ∧ OB B W v (L1 ++ pre.flatMap numI) ∧ Keeps (fun k => (Value.slice ab L.length cb).ownBlock = some k) w W ∧ (∀ k, v.ownBlock = some k → (Value.slice ab L.length cb).ownBlock = some k ∨ w.heap.size + 2 ≤ k) ∧ ∀ z ∈ pre, z ≤ 1073741824)
    (fun F pre A B ⟨v, e, h1, h2, h3, h4, h5⟩ k => ⟨v, e, h1.keepsC k, owns_keepsC h2 k, h3.keepsC k (by have := W45.out; have := Z5.out; omega), h4, h5⟩) (FB w.heap.size (.slice a3 L1.length cap3))
    ⟨fun q => ?_, fun a' len' cap' e' ad ea q => ?_⟩ (fun k q => ?_) ⟨_, rfl, X5.out, by simpa using O5.out, K5.out, T4.out, by simp⟩
    (fun x => { tmps := #[.slice ab L.length cb, cmV ⟨k, id, sv, m, co, e, p, early, parts⟩ (.slice a parts.length cap), .pointer (some ⟨w.heap.size, 0, none⟩), .pointer (some ⟨w.heap.size + 1, 0, none⟩), .slice none 0 0, .int .i64 x, .agg #[.int .i64 k, .int .i64 id, .int .i64 sv, .int .i64 m, .int .i64 co, .int .i64 e, .int .i64 p, .bool early, .slice a parts.length cap], .bool true, .bool false, undef, .slice ab L.length cb, .pointer (some ⟨w.heap.size + 1, 0, none⟩), .int .i64 k, .int .u8 k, .slice (some ⟨W2.heap.size, 0, none⟩) 1 1, .slice a3 L1.length cap3, .agg #[.int .i64 k, .int .i64 id, .int .i64 sv, .int .i64 m, .int .i64 co, .int .i64 e, .int .i64 p, .bool early, .slice a parts.length cap], .func (.func 30) #[] #[.pointer (some ⟨W4.heap.size, 0, none⟩)], .int .i64 x, undef, undef, undef, undef, undef, undef, undef, undef, undef, undef, undef, undef, undef, undef, undef, undef, undef], defers := [] }) ?assign ?body ?done
  · have h1 := W45.out
    rcases q with e | e
    · omega
    · have := (O4.out.lt e).2; omega
  · cases e'
    have h1 : ad.block < w.heap.size := by
      obtain ⟨a9, cap9, e9, hr9⟩ := HP.out
      cases e9
      exact hr9.2 ad ea
    rcases q with z | z
    · omega
    · rcases T4.out _ z with y | y
      · exact NE.out _ _ _ rfl ad ea y
      · omega
  · have h1 := W45.out
    have h2 := Z5.out
    rcases q with z | z
    · omega
    · have := (O4.out.lt z).2; omega
  case assign =>
    intro l x W K hK
    gi_wp2
    exact hK
  case body =>
    rintro l F pre x W ⟨v, rfl, hbx, hrow, hk, hown, hrng⟩ hlen hmem
    obtain ⟨x0, x1⟩ := RNG.out x hmem
    obtain ⟨n, rfl⟩ := Int.eq_ofNat_of_zero_le x0
    have NL : (num n).length ≤ 5 := num_short 4 (by omega)
    have FL := five_len pre hrng
    have HR := Lib.hid (show ∀ z ∈ pre ++ [(n : Int)], z ≤ 1073741824 from fun z hz => by
      rcases List.mem_append.mp hz with q | q
      · exact hrng z q
      · rw [List.mem_singleton] at q; rw [q]; exact x1)
    have TL := Lib.hid (show L1 ++ (pre ++ [(n : Int)]).flatMap numI = L1 ++ pre.flatMap numI ++ num n by rw [List.flatMap_append]; simp [numI])
    have ML : (L1 ++ pre.flatMap numI).length ≤ 900005001 := by rw [List.length_append]; have := L1L.out; omega
    obtain ⟨M, hM⟩ : ∃ M, L1 ++ pre.flatMap numI = M := ⟨_, rfl⟩
    rw [hM] at TL ML hrow
    have S0 := Lib.hid (show WrS B w (.slice ab L.length cb) w.heap.size W v (M ++ []) W v from ⟨hbx, by simpa using hrow, Moves.refl (fun k q => by rcases q with z | z; have := hbx.lt; omega; exact (hrow.lt z).2), KeepsOthers.refl _, hk, hown⟩)
    clear hbx hrow hk hown hrng hM FL
    gi_wp2
    gi_loopw [5] (fun u wr => ∃ (m : Nat) (p : List UInt8) (v' : Value), u = .int .i64 m ∧ m ≤ n ∧ num n = p ++ num m ∧ WrS B w (.slice ab L.length cb) w.heap.size W v (M ++ p) wr v') (fun u _ => (intOf u).toNat)
    case atStart => exact ⟨n, [], v, rfl, Nat.le_refl _, rfl, S0.out⟩
    case round =>
      obtain ⟨m, p, v', rfl, mn, hpre, hs⟩ := hrel
      have SS := Lib.hid hs
      have PR := Lib.hid hpre
      have PL : p.length ≤ 5 := by rw [hpre, List.length_append] at NL; omega
      have hl : (M ++ p).length ≤ 1000000000 := by rw [List.length_append]; omega
      have c0 := hs.box.cell 0
      have f0 := hs.box.free 0
      simp at c0
      have BW := Lib.hid (show B ≤ wr.heap.size from Nat.le_trans HB.out (Nat.le_of_lt hs.box.lt))
      clear hs hpre
      by_cases g : 128 ≤ m
      · have d1 : decide (128 ≤ (m : Int)) = true := by simp; omega
        have d1' : decide (128 ≤ m) = true := by simp; omega
        have SP := Lib.hid (num_split g)
        have t1 : (m : Int).tmod 128 = ((m % 128 : Nat) : Int) := by rw [Int.tmod_eq_emod_of_nonneg (by omega)]; omega
        have t2 : (m : Int) % 128 = ((m % 128 : Nat) : Int) := by omega
        obtain ⟨r, hr⟩ : ∃ r, m % 128 = r := ⟨_, rfl⟩
        rw [hr] at t1 t2 SP
        have r1 : r < 128 := by omega
        have w1 : IntKind.i64.wrap ((r : Int) + 128) = (r : Int) + 128 := IntWalk.i64_in _ (by omega)
        have w2 : IntKind.u8.wrap ((r : Int) + 128) = (r : Int) + 128 := by show ((r : Int) + 128) % 256 = _; omega
        clear hr
        gi_wp2_with (gi_at_builtin; refine app_byteIn rfl _ _ rfl B _ (M ++ p) rfl (SS.out.row.below (wbox _ _)) wr.heap.size (bt ((r : Int) + 128)) ((r : Int) + 128) (bt_toNat (by omega) (by omega)) rfl (heap_alloc_new _ _) (Nat.le_trans BW.out (wbox wr _).size) hl ?_; intro v2 w2 h1 h2 h3; have A1 := Lib.hid (SS.out.add VL.out (Nat.le_refl _) h1 h2 h3); obtain ⟨a2, n2, cap2, rfl⟩ := h1.slice3; clear h1 h2 h3; have c5 := A1.out.2.cell 0; have f5 := A1.out.2.free 0; simp at c5)
        have NX := Lib.hid (show num n = (p ++ [bt ((r : Int) + 128)]) ++ num (m / 128) by rw [PR.out, SP.out]; simp)
        have WX := Lib.hid (show WrS B w (.slice ab L.length cb) w.heap.size W v (M ++ (p ++ [bt ((r : Int) + 128)])) _ _ by have h1 := A1.out.1; rw [List.append_assoc] at h1; exact h1)
        go_roundw
        case rel => exact ⟨m / 128, _, _, by rw [show ((m / 128 : Nat) : Int) = (m : Int) / 128 by omega], by omega, NX.out, WX.out⟩
        case measure => simp [intOf]; omega
      · have d1 : decide (128 ≤ (m : Int)) = false := by simp; omega
        have d1' : decide (128 ≤ m) = false := by simp; omega
        have SP := Lib.hid (num_last (show m < 128 by omega))
        have w2 : IntKind.u8.wrap (m : Int) = (m : Int) := by show (m : Int) % 256 = m; omega
        gi_wp2_with (gi_at_builtin; refine app_byteIn rfl _ _ rfl B _ (M ++ p) rfl (SS.out.row.below (wbox _ _)) wr.heap.size (bt (m : Int)) (m : Int) (bt_toNat (by omega) (by omega)) rfl (heap_alloc_new _ _) (Nat.le_trans BW.out (wbox wr _).size) hl ?_; intro v2 w2 h1 h2 h3; have A1 := Lib.hid (SS.out.add VL.out (Nat.le_refl _) h1 h2 h3); obtain ⟨a2, n2, cap2, rfl⟩ := h1.slice3; clear h1 h2 h3; have c5 := A1.out.2.cell 0; have f5 := A1.out.2.free 0; simp at c5)
        have h := A1.out.1
        exact ⟨h.oth, _, ⟨_, rfl, h.box, by rw [TL.out, PR.out, SP.out]; simpa [List.append_assoc] using h.row, h.kp, h.own, HR.out⟩, h.mv⟩
  case done =>
    rintro D F W hD ⟨v, rfl, hbx, hrow, hk, hown, hrng⟩ hK
    obtain ⟨a9, n9, cap9, rfl⟩ := hrow.slice3
    have c0 := hbx.cell 0
    simp at c0
    have RO := Lib.hid hrow
    have KK := Lib.hid hk
    have OW := Lib.hid hown
    have HK := Lib.hid hK
    have DW := Lib.hid (show w.heap.size ≤ D by have := W45.out; have := Z5.out; omega)
    clear hbx hrow hk hown hrng hK hD
    go_wp2
    have KF := KeepsC.put (N := w.heap.size) (o' := .deferred none) HK.out rfl DW.out
    refine ⟨by simp, .inl ⟨_, _, rfl, run_takeDeferred HK.out, ?_⟩⟩
    refine ⟨.slice a9 n9 cap9, by simp [results, Try.results16, go_sem], ?_⟩
    refine ⟨_, rfl, ?_, KK.out.keepsC KF (Nat.le_refl _), fun k e => (OW.out k e).elim .inl fun q => .inr (by omega)⟩
    rw [EN.out]
    exact owns_keepsC RO.out KF
end
end Go.Proofs.Ytlcagjmppmajeaa
