/-
  The law's rows by numbers: made (regattalaw16): contract.
-/
import Derived.Test.YtndhpihgeacdfaaSo0
import Derived.Test.YtndhpihgeacdfaaSs2
import Derived.Deep.AppendLies
import Derived.Deep.RegionLaw
namespace Go.Proofs.Ytndhpihgeacdfaa
open Go.RowKit

theorem Try.infoU : (Try.prog.info? 44).map (fun i => (i.zero, i.size, i.bytes)) = some (some (.agg #[.int .i64 0, .int .i64 0, .int .i64 0]), 3, 24) := by kernel_rfl
theorem Try.infoK : (Try.prog.info? 47).map (fun i => (i.zero, i.size, i.bytes)) = some (some (.agg #[.int .i64 0, .slice none 0 0]), 2, 32) := by kernel_rfl
/-- a run by a number: the k-th of its slot -/
def coreM (c z : Int) : Int := c + 1 + bits .and .i64 z 7
def runM (k : Nat) (c z : Int) : Ru := ⟨bits .and .i64 (z / 8) 31 * 8 + k, coreM c z, 1 + bits .and .i64 z 1073741823⟩
def runsM : Nat → Int → List Int → List Ru
  | _, _, [] => []
  | k, c, z :: zs => runM k c z :: runsM (k + 1) (coreM c z) zs
def coresM : Int → List Int → Int
  | c, [] => c
  | c, z :: zs => coresM (coreM c z) zs
theorem runsM_snoc : ∀ (x : List Int) (k : Nat) (c z : Int), runsM k c (x ++ [z]) = runsM k c x ++ [runM (k + x.length) (coresM c x) z]
  | [], k, c, z => by simp [runsM, coresM]
  | y :: x, k, c, z => by
    rw [List.cons_append, runsM, runsM_snoc x (k + 1) (coreM c y) z, runsM, coresM, List.cons_append, List.length_cons, show k + 1 + x.length = k + (x.length + 1) by omega]
theorem coresM_snoc : ∀ (x : List Int) (c z : Int), coresM c (x ++ [z]) = coreM (coresM c x) z
  | [], c, z => rfl
  | y :: x, c, z => by rw [List.cons_append, coresM, coresM_snoc x, coresM]
theorem runsM_len : ∀ (x : List Int) (k : Nat) (c : Int), (runsM k c x).length = x.length
  | [], _, _ => rfl
  | y :: x, k, c => by rw [runsM, List.length_cons, runsM_len x, List.length_cons]
theorem and_low (x n : Int) (h0 : 0 ≤ n) (h1 : n ≤ 1073741823) : 0 ≤ bits .and .i64 x n ∧ bits .and .i64 x n ≤ n := by
  have hn : (BitVec.ofInt 64 n).toNat = n.toNat := by
    rw [BitVec.toNat_ofInt]
    omega
  have h : (BitVec.ofInt 64 x &&& BitVec.ofInt 64 n).toNat ≤ n.toNat := by
    rw [BitVec.toNat_and, hn]
    exact Nat.and_le_right
  have e : bits .and .i64 x n = ((BitVec.ofInt 64 x &&& BitVec.ofInt 64 n).toNat : Int) := by
    show IntKind.i64.wrap ((BitVec.ofInt 64 x &&& BitVec.ofInt 64 n).toNat : Int) = _
    exact IntWalk.i64_in _ (by omega)
  omega
theorem coresM_bd : ∀ (x : List Int) (c : Int), c ≤ coresM c x ∧ coresM c x ≤ c + 8 * x.length
  | [], c => by simp [coresM]
  | y :: x, c => by
    have h := coresM_bd x (coreM c y)
    have a := and_low y 7 (by omega) (by omega)
    unfold coreM at h
    rw [coresM, List.length_cons]
    unfold coreM
    omega
def slotM (f : Int) (i : Nat) (zs : List Int) : Sk := ⟨f + i, runsM 0 (-1) (zs.take 8)⟩
def madeV (f : Int) (l : List (List Int)) : List Sk := (l.take 12).mapIdx (slotM f)
theorem made_snoc {f : Int} {l : List (List Int)} {i : Nat} {zs : List Int} (h : l.take (i + 1) = l.take i ++ [zs]) (hi : i < l.length) : (l.take (i + 1)).mapIdx (slotM f) = (l.take i).mapIdx (slotM f) ++ [slotM f i zs] := by
  rw [h, List.mapIdx_concat, List.length_take, Nat.min_eq_left (by omega)]
/-- what is made so far: the row v, its slots' runs in blocks of their own -/
structure OutK (base : Nat) (W : World) (v : Value) (l : List Sk) (vs : List (Option Addr × Nat × Nat)) : Prop where
  own : W.ownsRow base 47 2 v l.length (List.zipWith skc l vs).flatten
  len : vs.length = l.length
  runs : ∀ (i : Nat) (s : Sk) (u : Option Addr × Nat × Nat), l[i]? = some s → vs[i]? = some u → RowU W u.1 u.2.1 u.2.2 s.runs
  far : ∀ u ∈ vs, 0 < u.2.1 → ∀ ad : Addr, u.1 = some ad → ad.block < W.heap.size ∧ v.ownBlock ≠ some ad.block
theorem OutK.nil (base : Nat) (W : World) : OutK base W (.slice none 0 0) [] [] := ⟨World.ownsRow_nil _ _ _ _, rfl, fun i s u h => by simp at h, fun u h => by simp at h⟩
theorem OutK.below {base : Nat} {W W' : World} {v : Value} {l : List Sk} {vs : List (Option Addr × Nat × Nat)} (h : OutK base W v l vs) (hb : Below W.heap.size W W') : OutK base W' v l vs :=
  ⟨owns_below h.own hb, h.len, fun i s u hs hu => (h.runs i s u hs hu).below hb, fun u hu z ad e => ⟨Nat.lt_of_lt_of_le (h.far u hu z ad e).1 hb.size, (h.far u hu z ad e).2⟩⟩
theorem OutK.row {base : Nat} {W : World} {v : Value} {l : List Sk} {vs : List (Option Addr × Nat × Nat)} (h : OutK base W v l vs) : ∃ a cap, v = .slice a l.length cap ∧ RowK W a l.length cap l := by
  obtain ⟨a, cap, h1, h2, _⟩ := rowF_of_owns (wideK l vs) h.own (by rw [List.length_zipWith, h.len]; omega)
  exact ⟨a, cap, h1, vs, h.len, h2, h.runs⟩
theorem rowU_lt {W : World} {a : Option Addr} {n cap B : Nat} {e : TypeId} {l : List Ru} (h : RowU W a n cap l) {ad : Addr} (q : a = some ad) (ho : W.ownsRow B e 3 (.slice a n cap) n (l.map Ru.cs).flatten) : ad.block < W.heap.size := by
  subst q
  rcases ho.2 with ⟨hv, _⟩ | _
  · cases hv
  · exact (ho.lt ad.block rfl).2
theorem OutK.add {base : Nat} {W W' : World} {v : Value} {l : List Sk} {vs : List (Option Addr × Nat × Nat)} (h : OutK base W v l vs) {g cap : Nat} {s : Sk} {a : Option Addr} {n c : Nat}
    (ho : W'.ownsRow base 47 2 (.slice (some ⟨g, 0, none⟩) (l.length + 1) cap) (l.length + 1) ((List.zipWith skc l vs).flatten ++ [.int .i64 s.tm, .slice a n c]))
    (hg : W.grownBy W' v.ownBlock) (hr : RowU W a n c s.runs) (hf : 0 < n → ∀ ad : Addr, a = some ad → ad.block < W.heap.size ∧ v.ownBlock ≠ some ad.block) (hor : v.ownBlock = some g ∨ W.heap.size ≤ g) : OutK base W' (.slice (some ⟨g, 0, none⟩) (l.length + 1) cap) (l ++ [s]) (vs ++ [(a, n, c)]) := by
  have keep : ∀ (b : Option Addr) (k q : Nat) (rs : List Ru), RowU W b k q rs → (0 < k → ∀ ad : Addr, b = some ad → ad.block < W.heap.size ∧ v.ownBlock ≠ some ad.block) → RowU W' b k q rs := fun b k q rs hb hlt => by
    rcases Nat.eq_zero_or_pos k with z | z
    · subst z; exact ⟨hb.1, hb.2.1, hb.2.2.1, hb.2.2.2.1, fun i hi => by omega⟩
    · exact hb.same fun ad e => hg.block _ (hlt z ad e).1 (fun x => (hlt z ad e).2 x.symm)
  have far : ∀ ad : Addr, (ad.block < W.heap.size ∧ v.ownBlock ≠ some ad.block) → ad.block < W'.heap.size ∧ (Value.slice (some ⟨g, 0, none⟩) (l.length + 1) cap).ownBlock ≠ some ad.block := fun ad q => ⟨Nat.lt_of_lt_of_le q.1 hg.size, fun e => by
    simp [Value.ownBlock] at e
    rcases hor with p | p
    · exact q.2 (by rw [p, e])
    · omega⟩
  refine ⟨?_, by simp [h.len], fun i s' u hs hu => ?_, fun u hu z ad e => ?_⟩
  · rw [List.zipWith_append (by rw [h.len]), List.flatten_append, List.length_append]
    simpa [skc] using ho
  · rcases Nat.lt_or_ge i l.length with q | q
    · rw [List.getElem?_append_left q] at hs
      rw [List.getElem?_append_left (by rw [h.len]; exact q)] at hu
      exact keep _ _ _ _ (h.runs i s' u hs hu) fun z ad e => h.far u (List.mem_of_getElem? hu) z ad e
    · rw [List.getElem?_append_right q] at hs
      rw [List.getElem?_append_right (by rw [h.len]; exact q), h.len] at hu
      have z : i - l.length = 0 := by have := lt_of_get hs; simpa using this
      rw [z] at hs hu
      simp at hs hu
      subst hs hu
      exact keep _ _ _ _ hr hf
  · rcases List.mem_append.mp hu with q | q
    · exact far ad (h.far u q z ad e)
    · simp at q
      subst q
      exact far ad (hf z ad e)
set_option maxRecDepth 20000 in
set_option maxHeartbeats 4000000 in
theorem made16_any (at_ : Int) (a : Option Addr) (len cap : Nat) (l : List (List Int)) (w : World) (h : RowN w a len cap l) (hw : ∀ zs ∈ l, ∀ z ∈ zs, (Lit.int .i64 z).wf = true) :
    Calls Try.prog 11 #[.int .i64 at_, .slice a len cap] w fun e w' => (∃ b n c, e = .returned (.slice b n c) ∧ RowK w' b n c (madeV (bits .and .i64 at_ 1073741823) l) ∧ (n = 0 → b = none ∧ c = 0)) ∧ Below w.heap.size w w' := by
  have H := Lib.hid h
  have LN := Lib.hid h.len
  have WF := Lib.hid hw
  have ⟨k1, k2⟩ := h.cap_le
  clear h hw
  obtain ⟨f, hf⟩ : ∃ f, bits .and .i64 at_ 1073741823 = f := ⟨_, rfl⟩
  have fb := and_low at_ 1073741823 (by omega) (by omega)
  rw [hf] at fb ⊢
  go_enter Try.func11, Try.ntmps11
  go_wp2
  clear hf
  go_loopw [5, 7] (fun v u wr => ∃ (i : Nat) (vs : List (Option Addr × Nat × Nat)), u = .int .i64 i ∧ i ≤ len ∧ i ≤ 12 ∧ OutK w.heap.size wr v ((l.take i).mapIdx (slotM f)) vs ∧ Below w.heap.size w wr ∧ (i = 0 → v = .slice none 0 0)) (fun _ u _ => len - (intOf u).toNat)
  case atStart => exact ⟨0, [], rfl, by omega, by omega, by simpa using OutK.nil _ _, Below.refl _ _, fun _ => rfl⟩
  case round =>
    obtain ⟨i, vs, rfl, i1, i12, ho, hb, hz⟩ := hrel
    have O := Lib.hid ho
    have NZ := Lib.hid hz
    clear hz
    have B := Lib.hid hb
    clear ho hb
    by_cases go : i < len
    · have b1 : decide ((i : Int) < (len : Int)) = true := by simp; omega
      have b1' : decide (i < len) = true := by simp; omega
      have i3 : (i : Int) < (len : Int) := by omega
      have i0 : 0 ≤ (i : Int) := by omega
      by_cases g12 : i < 12
      · have b2 : decide ((i : Int) < 12) = true := by simp; omega
        have b2' : decide (i < 12) = true := by simp; omega
        obtain ⟨zs, hs, hts⟩ := get_of (l := l) (i := i) (by rw [LN.out]; exact go)
        have TS := Lib.hid (made_snoc (f := f) hts (by rw [LN.out]; exact go))
        have WZ := Lib.hid (WF.out zs (List.mem_of_getElem? hs))
        obtain ⟨ba, oa, ao, lo, co, rfl, x0, hz⟩ := H.out.at hs
        have HX := Lib.hid x0
        have HZ := Lib.hid hz
        have LZ := Lib.hid hz.len
        have ⟨z1, z2⟩ := hz.cap_le
        have x0 := cell_on B.out HX.out
        have w0 : IntKind.i64.wrap (f + i) = f + i := IntWalk.i64_in _ (by omega)
        clear hs hts hz
        go_wp2
        obtain ⟨W2, hW2⟩ : ∃ W2, wr.alloc (.cells #[.int .i64 (f + i), .slice none 0 0] 47) = W2 := ⟨_, rfl⟩
        have B2 := Lib.hid (show Below wr.heap.size wr W2 by rw [← hW2]; exact wbox _ _)
        have S2 := Lib.hid (show W2.heap.size = wr.heap.size + 1 by rw [← hW2]; simp)
        have X2 := Lib.hid (show Blk W2 47 wr.heap.size #[.int .i64 (f + i), .slice none 0 0] by rw [← hW2]; exact Blk.new _ _ _)
        rw [hW2]
        clear hW2 x0 w0 b1 b1' b2 b2'
        obtain ⟨wq, rfl⟩ : ∃ wq, wq = wr := ⟨_, rfl⟩
        go_loopw [9, 10] (fun c' u wx => ∃ (k : Nat) (vr : Value), u = .int .i64 k ∧ k ≤ lo ∧ k ≤ 8 ∧ c' = .int .i64 (coresM (-1) (zs.take k)) ∧ Blk wx 47 wq.heap.size #[.int .i64 (f + i), vr] ∧ wx.ownsRow W2.heap.size 44 3 vr k ((runsM 0 (-1) (zs.take k)).map Ru.cs).flatten ∧ Below wq.heap.size wq wx ∧ W2.heap.size ≤ wx.heap.size) (fun _ u _ => lo - (intOf u).toNat)
        case atStart => exact ⟨0, _, rfl, by omega, by omega, rfl, X2.out, World.ownsRow_nil _ _ _ _, B2.out, Nat.le_refl _⟩
        case round =>
          obtain ⟨k, vr, rfl, kl, k8, rfl, hx2, hown, hbw, hsz⟩ := hrel
          have X := Lib.hid hx2
          have OW := Lib.hid hown
          have BW := Lib.hid hbw
          have SZ := Lib.hid hsz
          clear hx2 hown hbw hsz
          have x0 := cell_on (below_next B.out BW.out) HX.out
          by_cases go2 : k < lo
          · have d1 : decide ((k : Int) < (lo : Int)) = true := by simp; omega
            have d1' : decide (k < lo) = true := by simp; omega
            have k3 : (k : Int) < (lo : Int) := by omega
            have k0 : 0 ≤ (k : Int) := by omega
            by_cases g8 : k < 8
            · have d2 : decide ((k : Int) < 8) = true := by simp; omega
              have d2' : decide (k < 8) = true := by simp; omega
              obtain ⟨z, hz, htz⟩ := get_of (l := zs) (i := k) (by rw [LZ.out]; exact go2)
              have hk : (zs.take k).length = k := by rw [List.length_take, LZ.out]; omega
              have cb := coresM_bd (zs.take k) (-1)
              rw [hk] at cb
              have RN := Lib.hid (show runsM 0 (-1) (zs.take (k + 1)) = runsM 0 (-1) (zs.take k) ++ [runM k (coresM (-1) (zs.take k)) z] by rw [htz, runsM_snoc, hk, Nat.zero_add])
              have CN := Lib.hid (show coresM (-1) (zs.take (k + 1)) = coreM (coresM (-1) (zs.take k)) z by rw [htz, coresM_snoc])
              have RL := Lib.hid (show (runsM 0 (-1) (zs.take k)).length = k by rw [runsM_len, hk])
              obtain ⟨bz, oz, rfl, y0⟩ := HZ.out.cell go2
              rw [List.getD_eq_getElem?_getD, hz] at y0
              replace y0 : w.cell? ⟨bz, oz + k, none⟩ = some (.int .i64 z) := y0
              have HY := Lib.hid y0
              replace y0 := cell_on (below_next B.out BW.out) y0
              have wz := bounds_i64 (WZ.out z (List.mem_of_getElem? hz))
              obtain ⟨c, hc⟩ : ∃ c, coresM (-1) (zs.take k) = c := ⟨_, rfl⟩
              obtain ⟨R, hR⟩ : ∃ R, runsM 0 (-1) (zs.take k) = R := ⟨_, rfl⟩
              rw [hc] at cb RN CN ⊢
              rw [hR] at RN OW RL
              have a7 := and_low z 7 (by omega) (by omega)
              have a31 := and_low (z / 8) 31 (by omega) (by omega)
              have ax := and_low z 1073741823 (by omega) (by omega)
              clear hz htz hk hc hR
              have v1 : IntKind.i64.wrap (c + 1) = c + 1 := IntWalk.i64_in _ (by omega)
              have v2 : IntKind.i64.wrap (c + 1 + bits .and .i64 z 7) = c + 1 + bits .and .i64 z 7 := IntWalk.i64_in _ (by omega)
              have v3 : IntKind.i64.wrap (bits .and .i64 (z / 8) 31 * 8) = bits .and .i64 (z / 8) 31 * 8 := IntWalk.i64_in _ (by omega)
              have v4 : IntKind.i64.wrap (bits .and .i64 (z / 8) 31 * 8 + k) = bits .and .i64 (z / 8) 31 * 8 + k := IntWalk.i64_in _ (by omega)
              have v5 : IntKind.i64.wrap (1 + bits .and .i64 z 1073741823) = 1 + bits .and .i64 z 1073741823 := IntWalk.i64_in _ (by omega)
              have NE := Lib.hid (show vr.ownBlock ≠ some wq.heap.size from fun e => by have := (OW.out.lt _ e).1; have := S2.out; omega)
              have gl := X.out.lt
              have sz := SZ.out
              have c0 := X.out.cell 1
              simp at c0
              have c0a := (X.out.alloc (.cells #[.int .i64 (bits .and .i64 (z / 8) 31 * 8 + k), .int .i64 (c + 1 + bits .and .i64 z 7), .int .i64 (1 + bits .and .i64 z 1073741823)] 44)).cell 1
              simp at c0a
              obtain ⟨i0', hi0, hz0, hz1, hz2⟩ := info_parts Try.infoU
              go_upto_region 13 with fail
              clear v1 v2 v3 v4 d1 d1' d2 d2' cb
              go_region_law ((refine step_append_lies _ (by rfl) _ _ _ (by rfl) W2.heap.size 44 i0' _ 3 24 Try.underlying45 hi0 hz0 hz1 hz2 rfl (by omega) vr k (R.map Ru.cs).flatten (by rfl) ((OW.out.alloc _).drew) ⟨wr.heap.size, 0, none⟩ 1 1 [.int .i64 (bits .and .i64 (z / 8) 31 * 8 + k), .int .i64 (c + 1 + bits .and .i64 z 7), .int .i64 (1 + bits .and .i64 z 1073741823)] (by rfl) (by rfl) (World.news_of_block (cs := #[.int .i64 (bits .and .i64 (z / 8) 31 * 8 + k), .int .i64 (c + 1 + bits .and .i64 z 7), .int .i64 (1 + bits .and .i64 z 1073741823)]) (t := 44) (fr := (0, 0)) (heap_alloc_new wr _)) (by simp [Value.oneCell']) (by omega) (by unfold maxLen; omega) (by omega) (by simp; omega) (wr.heap.size + 1) (by simp) ?_; intro b2 cap2 w2 hown2 hgrow2 hor hlt2; have HO2 := Lib.hid hown2; have HG2 := Lib.hid hgrow2; have HOR := Lib.hid hor; have LT2 := Lib.hid hlt2; have X3 := Lib.hid (show Blk w2 47 wq.heap.size #[.int .i64 (f + i), vr] from (hgrow2.block wq.heap.size (Nat.lt_of_lt_of_le gl (wbox wr _).size) (fun e => NE.out e.symm)).trans (X.out.alloc _)); clear hown2 hgrow2 hor hlt2; have c4 : w2.cell? ⟨wq.heap.size, 1, none⟩ = some vr := X3.out.cell 1; have f4 : w2.frozen? ⟨wq.heap.size, 1, none⟩ = false := X3.out.free 1))
              all_goals
                clear x0 y0 c0 c0a c4 f4 v5
                have BX := Lib.hid (show Below wq.heap.size wq w2 from ((BW.out.alloc BW.out.size _).drew).grown HG2.out (by have := BW.out.size; simp; omega) (fun k hk => by have := (OW.out.lt k hk).1; have := S2.out; omega))
                have HN := Lib.hid (show b2 ≠ wq.heap.size by
                  rcases HOR.out with q | q
                  · intro e; subst e; exact NE.out q
                  · omega)
                have NW := Lib.hid (show Blk (w2.setCell ⟨wq.heap.size, 1, none⟩ (.slice (some ⟨b2, 0, none⟩) (k + 1) cap2)) 47 wq.heap.size #[.int .i64 (f + i), (.slice (some ⟨b2, 0, none⟩) (k + 1) cap2)] ∧ (w2.setCell ⟨wq.heap.size, 1, none⟩ (.slice (some ⟨b2, 0, none⟩) (k + 1) cap2)).ownsRow W2.heap.size 44 3 (.slice (some ⟨b2, 0, none⟩) (k + 1) cap2) (k + 1) ((runsM 0 (-1) (zs.take (k + 1))).map Ru.cs).flatten ∧ Below wq.heap.size wq (w2.setCell ⟨wq.heap.size, 1, none⟩ (.slice (some ⟨b2, 0, none⟩) (k + 1) cap2)) ∧ W2.heap.size ≤ (w2.setCell ⟨wq.heap.size, 1, none⟩ (.slice (some ⟨b2, 0, none⟩) (k + 1) cap2)).heap.size from by
                  have hb : Below wq.heap.size wq (w2.setCell ⟨wq.heap.size, 1, none⟩ (.slice (some ⟨b2, 0, none⟩) (k + 1) cap2)) := BX.out.setCell (Nat.le_refl _) _
                  refine ⟨heap_setCell_same w2 wq.heap.size 1 _ _ _ X3.out, ?_, hb, ?_⟩
                  · rw [RN.out, List.map_append, List.flatten_append]
                    exact owns_keeps (F := fun k => k = wq.heap.size) (by simpa [Ru.cs, runM, coreM] using HO2.out) ((Keeps.refl (fun k => k = wq.heap.size) w2).set (.inl rfl) _ _) (fun x e => by simp [Value.ownBlock] at e; subst e; exact HN.out)
                  · have := hb.size
                    have h3 := X3.out.lt
                    have h4 := S2.out
                    rw [show (w2.setCell ⟨wq.heap.size, 1, none⟩ (.slice (some ⟨b2, 0, none⟩) (k + 1) cap2)).heap.size = w2.heap.size by simp]
                    omega)
                clear HO2 HG2 HOR LT2 X3 BX HN
                go_wp2
                go_roundw
                case rel => exact ⟨k + 1, _, by go_num, by omega, by omega, by rw [CN.out]; rfl, NW.out.1, NW.out.2.1, NW.out.2.2.1, NW.out.2.2.2⟩
                case measure => simp [intOf]; omega
            · have d2 : decide ((k : Int) < 8) = false := by simp; omega
              have d2' : decide (k < 8) = false := by simp; omega
              have FIN := Lib.hid (show zs.take k = zs.take 8 by rw [show k = 8 by omega])
              have RL := Lib.hid (show (runsM 0 (-1) (zs.take k)).length = k by rw [runsM_len, List.length_take, LZ.out]; omega)
              obtain ⟨ar, cr, rfl, hru, hfr⟩ := rowU_of_owns OW.out RL.out
              have RU := Lib.hid (show RowU wr ar k cr (slotM f i zs).runs by show RowU wr ar k cr (runsM 0 (-1) (zs.take 8)); rw [← FIN.out]; exact hru)
              have FR := Lib.hid (show ∀ ad : Addr, ar = some ad → ad.block < wr.heap.size ∧ u5.ownBlock ≠ some ad.block from fun ad e => ⟨(rowU_lt hru e OW.out), fun q => by have h1 := hfr ad e; have h2 := (O.out.own.lt _ q).2; have h3 := S2.out; omega⟩)
              have O4 := Lib.hid ((O.out.below BW.out).below (wbox wr (.cells #[.int .i64 (f + i), .slice ar k cr] 47)))
              have LL := Lib.hid (show ((l.take i).mapIdx (slotM f)).length = i by rw [List.length_mapIdx, List.length_take, LN.out]; omega)
              obtain ⟨L, hL⟩ : ∃ L, (l.take i).mapIdx (slotM f) = L := ⟨_, rfl⟩
              rw [hL] at TS O4 LL
              have c0 := X.out.cell 0; have c1 := X.out.cell 1
              simp at c0 c1
              clear hru hfr hL
              have B4 := Lib.hid (show Below w.heap.size w (wr.alloc (.cells #[.int .i64 (f + i), .slice ar k cr] 47)) from below_next (below_next B.out BW.out) (wbox wr _))
              obtain ⟨i0', hi0, hz0, hz1, hz2⟩ := info_parts Try.infoK
              have ll := LL.out
              have wl := B.out.size
              have wl2 := BW.out.size
              go_wp2_with (at_builtin; refine wpList_append_lies _ rfl _ _ _ rfl w.heap.size 47 i0' _ 2 32 Try.underlying22 hi0 hz0 hz1 hz2 rfl (by omega) u5 L.length (List.zipWith skc L vs).flatten rfl O4.out.own ⟨wr.heap.size, 0, none⟩ 1 1 [.int .i64 (f + i), .slice ar k cr] rfl rfl (World.news_of_block (cs := #[.int .i64 (f + i), .slice ar k cr]) (t := 47) (fr := (0, 0)) (heap_alloc_new wr _)) (by simp [Value.oneCell']) (by omega) (by unfold maxLen; omega) (by omega) (by simp; omega) (wr.heap.size + 1) (by simp) ?_; intro g2 cap2 w2 hown2 hgrow2 hor hlt2; have HO2 := Lib.hid hown2; have HG2 := Lib.hid hgrow2; have HOR := Lib.hid hor; clear hown2 hgrow2 hor hlt2)
              have NW := Lib.hid (show OutK w.heap.size w2 (.slice (some ⟨g2, 0, none⟩) (L.length + 1) cap2) ((l.take (i + 1)).mapIdx (slotM f)) (vs ++ [(ar, k, cr)]) by
                rw [TS.out]
                exact O4.out.add HO2.out HG2.out (RU.out.below (wbox wr _)) (fun _ ad e => ⟨Nat.lt_of_lt_of_le (FR.out ad e).1 (wbox wr _).size, (FR.out ad e).2⟩) (HOR.out.imp id fun q => by rw [q]; simp))
              have BN := Lib.hid (show Below w.heap.size w w2 from B4.out.grown HG2.out B4.out.size (fun q hq => (O4.out.own.lt q hq).1))
              clear O4 HO2 HG2 HOR c0 c1
              go_wp2
              go_roundw
              case rel => exact ⟨i + 1, _, by go_num, by omega, by omega, by have q := NW.out; rw [LL.out] at q; exact q, BN.out, fun h => by omega⟩
              case measure => simp [intOf]; omega
          · have d1 : decide ((k : Int) < (lo : Int)) = false := by simp; omega
            have d1' : decide (k < lo) = false := by simp; omega
            have FIN := Lib.hid (show zs.take k = zs.take 8 by rw [List.take_of_length_le (by rw [LZ.out]; omega), List.take_of_length_le (by rw [LZ.out]; omega)])
            have RL := Lib.hid (show (runsM 0 (-1) (zs.take k)).length = k by rw [runsM_len, List.length_take, LZ.out]; omega)
            obtain ⟨ar, cr, rfl, hru, hfr⟩ := rowU_of_owns OW.out RL.out
            have RU := Lib.hid (show RowU wr ar k cr (slotM f i zs).runs by show RowU wr ar k cr (runsM 0 (-1) (zs.take 8)); rw [← FIN.out]; exact hru)
            have FR := Lib.hid (show ∀ ad : Addr, ar = some ad → ad.block < wr.heap.size ∧ u5.ownBlock ≠ some ad.block from fun ad e => ⟨(rowU_lt hru e OW.out), fun q => by have h1 := hfr ad e; have h2 := (O.out.own.lt _ q).2; have h3 := S2.out; omega⟩)
            have O4 := Lib.hid ((O.out.below BW.out).below (wbox wr (.cells #[.int .i64 (f + i), .slice ar k cr] 47)))
            have LL := Lib.hid (show ((l.take i).mapIdx (slotM f)).length = i by rw [List.length_mapIdx, List.length_take, LN.out]; omega)
            obtain ⟨L, hL⟩ : ∃ L, (l.take i).mapIdx (slotM f) = L := ⟨_, rfl⟩
            rw [hL] at TS O4 LL
            have c0 := X.out.cell 0; have c1 := X.out.cell 1
            simp at c0 c1
            clear hru hfr hL
            have B4 := Lib.hid (show Below w.heap.size w (wr.alloc (.cells #[.int .i64 (f + i), .slice ar k cr] 47)) from below_next (below_next B.out BW.out) (wbox wr _))
            obtain ⟨i0', hi0, hz0, hz1, hz2⟩ := info_parts Try.infoK
            have ll := LL.out
            have wl := B.out.size
            have wl2 := BW.out.size
            go_wp2_with (at_builtin; refine wpList_append_lies _ rfl _ _ _ rfl w.heap.size 47 i0' _ 2 32 Try.underlying22 hi0 hz0 hz1 hz2 rfl (by omega) u5 L.length (List.zipWith skc L vs).flatten rfl O4.out.own ⟨wr.heap.size, 0, none⟩ 1 1 [.int .i64 (f + i), .slice ar k cr] rfl rfl (World.news_of_block (cs := #[.int .i64 (f + i), .slice ar k cr]) (t := 47) (fr := (0, 0)) (heap_alloc_new wr _)) (by simp [Value.oneCell']) (by omega) (by unfold maxLen; omega) (by omega) (by simp; omega) (wr.heap.size + 1) (by simp) ?_; intro g2 cap2 w2 hown2 hgrow2 hor hlt2; have HO2 := Lib.hid hown2; have HG2 := Lib.hid hgrow2; have HOR := Lib.hid hor; clear hown2 hgrow2 hor hlt2)
            have NW := Lib.hid (show OutK w.heap.size w2 (.slice (some ⟨g2, 0, none⟩) (L.length + 1) cap2) ((l.take (i + 1)).mapIdx (slotM f)) (vs ++ [(ar, k, cr)]) by
              rw [TS.out]
              exact O4.out.add HO2.out HG2.out (RU.out.below (wbox wr _)) (fun _ ad e => ⟨Nat.lt_of_lt_of_le (FR.out ad e).1 (wbox wr _).size, (FR.out ad e).2⟩) (HOR.out.imp id fun q => by rw [q]; simp))
            have BN := Lib.hid (show Below w.heap.size w w2 from B4.out.grown HG2.out B4.out.size (fun q hq => (O4.out.own.lt q hq).1))
            clear O4 HO2 HG2 HOR c0 c1
            go_wp2
            go_roundw
            case rel => exact ⟨i + 1, _, by go_num, by omega, by omega, by have q := NW.out; rw [LL.out] at q; exact q, BN.out, fun h => by omega⟩
            case measure => simp [intOf]; omega
      · have b2 : decide ((i : Int) < 12) = false := by simp; omega
        have b2' : decide (i < 12) = false := by simp; omega
        obtain ⟨av, cv, rfl, hr⟩ := O.out.row
        have N0 := Lib.hid (show ((l.take i).mapIdx (slotM f)).length = 0 → av = none ∧ cv = 0 from fun h => by rw [List.length_mapIdx, List.length_take, LN.out] at h; omega)
        have e : madeV f l = (l.take i).mapIdx (slotM f) := by unfold madeV; rw [show i = 12 by omega]
        have R := Lib.hid hr
        have E := Lib.hid e
        clear e hr
        go_wp2
        go_ret
        exact ⟨⟨_, _, _, rfl, by rw [E.out]; exact R.out, N0.out⟩, B.out⟩
    · have b1 : decide ((i : Int) < (len : Int)) = false := by simp; omega
      have b1' : decide (i < len) = false := by simp; omega
      obtain ⟨av, cv, rfl, hr⟩ := O.out.row
      have N0 := Lib.hid (show ((l.take i).mapIdx (slotM f)).length = 0 → av = none ∧ cv = 0 from fun h => by
        rw [List.length_mapIdx, List.length_take, LN.out] at h
        have h2 := NZ.out (by omega)
        simp only [Value.slice.injEq] at h2
        exact ⟨h2.1, h2.2.2⟩)
      have e : madeV f l = (l.take i).mapIdx (slotM f) := by
        have hl := LN.out
        unfold madeV
        rw [List.take_of_length_le (by omega), List.take_of_length_le (by omega)]
      have R := Lib.hid hr
      have E := Lib.hid e
      clear e hr
      go_wp2
      go_ret
      exact ⟨⟨_, _, _, rfl, by rw [E.out]; exact R.out, N0.out⟩, B.out⟩
end Go.Proofs.Ytndhpihgeacdfaa
