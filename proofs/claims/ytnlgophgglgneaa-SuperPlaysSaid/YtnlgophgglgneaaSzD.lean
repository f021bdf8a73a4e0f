/-
  Package super: a row of jobs is sorted: contract.
  Package super: Jobs: contract.
-/
import Derived.Test.YtnlgophgglgneaaSzA
import Derived.Test.YtnlgophgglgneaaSzB
namespace Go.Proofs.Ytnlgophgglgneaa
open Go.RowKit

theorem wideJ (js : List Jb) : Wide 5 (js.map Jb.cs) := fun r hr => by
  obtain ⟨x, _, rfl⟩ := List.mem_map.mp hr
  rfl
theorem flatJ_len (js : List Jb) : (js.map Jb.cs).flatten.length = js.length * 5 := by rw [flat_len _ (wideJ js), List.length_map]
theorem oneJ (x : Jb) : ∀ v ∈ x.cs, v.oneCell' = true := by
  intro v hv
  unfold Jb.cs at hv
  simp at hv
  rcases hv with rfl | rfl | rfl | rfl | rfl <;> rfl
theorem flatK_jobs (js : List Jb) : (Go.Sort.flatK Jb.cs 5 js.toArray).toList = (js.map Jb.cs).flatten := by
  apply List.ext_getElem?
  intro t
  by_cases ht : t < js.length * 5
  · have h1 := Go.Sort.get_flatK Jb.cs 5 js.toArray t (by simpa using ht)
    have hi : t / 5 < js.length := by omega
    have hm : t % 5 < 5 := Nat.mod_lt _ (by omega)
    have h2 := flat_at _ (wideJ js) (t / 5) (by rw [List.length_map]; exact hi) (t % 5) hm
    have e : t / 5 * 5 + t % 5 = t := by omega
    rw [e, List.getD_eq_getElem?_getD, List.getElem?_map, List.getElem?_eq_getElem hi] at h2
    simp only [Option.map_some, Option.getD_some] at h2
    rw [h2, Array.getElem?_toList, Array.getElem?_eq_getElem (by simpa using ht)]
    rw [getElem!_pos _ t (by simpa using ht)] at h1
    rw [h1, getElem!_pos _ (t / 5) (by simpa using hi)]
    have hl : (js[t / 5]).cs.length = 5 := rfl
    rw [List.getElem?_eq_getElem (by omega)]
    simp only [List.getElem_toArray]
    rw [getElem!_pos _ (t % 5) (by omega)]
  · rw [List.getElem?_eq_none (by simp; omega), List.getElem?_eq_none (by rw [flatJ_len]; omega)]
section
variable {w : World} {g cap n : Nat} {os : Array Obj} {cur : Array Value} {e : TypeId}
theorem holds_of_row {F : Array Value} (hb : w.heap[g]? = some (.cells cur e (0, 0))) (ht : cur.toList.take F.size = F.toList) : Go.Sort.Holds id w g 0 F := by
  intro j hj
  refine ⟨?_, by simp [World.frozen?, hb]⟩
  have h1 : (cur.toList.take F.size)[j]? = F.toList[j]? := by rw [ht]
  rw [List.getElem?_take_of_lt hj] at h1
  simp only [World.cell?, hb, Nat.zero_add]
  simp only [Option.isSome_none, Bool.false_eq_true, if_false]
  rw [← Array.getElem?_toList, h1, Array.getElem?_toList, Array.getElem?_eq_getElem hj, getElem!_pos _ j hj]
  rfl
theorem heap_put (F : Array Value) (hb : w.heap[g]? = some (.cells cur e (0, 0))) : (Go.Sort.grow (Go.Sort.putRow id (Go.Sort.ahead w n) g 0 F) os).heap[g]? = some (.cells (Go.Sort.putCells id 0 F cur) e (0, 0)) := by
  have hg : g < w.heap.size := (Array.getElem?_eq_some_iff.1 hb).1
  rw [Go.Sort.heap_grow_old _ _ (by simpa using hg)]
  simp [Go.Sort.putRow, Go.Sort.mapBlock, Go.Sort.ahead, Array.getElem?_modify, hb, Go.Sort.onCells]
theorem keeps_put (F : Array Value) : Keeps (fun k => k = g) w (Go.Sort.grow (Go.Sort.putRow id (Go.Sort.ahead w n) g 0 F) os) := by
  refine ⟨rfl, rfl, rfl, by simp, fun k hk hne => ?_⟩
  rw [Go.Sort.heap_grow_old _ _ (by simpa using hk)]
  have : g ≠ k := fun e => hne (by rw [e])
  simp [Go.Sort.putRow, Go.Sort.mapBlock, Go.Sort.ahead, Array.getElem?_modify, this]
theorem take_put (F : Array Value) (h : F.size ≤ cur.size) : (Go.Sort.putCells id 0 F cur).toList.take F.size = F.toList := by
  apply List.ext_getElem?
  intro j
  by_cases hj : j < F.size
  · rw [List.getElem?_take_of_lt hj, Array.getElem?_toList]
    simp [Go.Sort.putCells, hj, show j < cur.size by omega]
  · rw [List.getElem?_take_eq_none (by omega), List.getElem?_eq_none (by simpa using hj)]
end
theorem cmpLaysJ (blk off size : Nat) (w : World) : CmpLays Try.prog 46 #[] Jb.cs 5 cfJ blk off size w := fun _ _ _ _ x y =>
  (sorder_any x y _ _ rfl).mono fun _ _ ⟨h1, q, os, h2⟩ => ⟨h1, q, os, h2⟩
set_option maxHeartbeats 1000000 in
theorem jsort_any (js : List Jb) (base g cap : Nat) (w : World) (h : w.ownsRow base 39 5 (.slice (some ⟨g, 0, none⟩) js.length cap) js.length (js.map Jb.cs).flatten) (hl : js.length ≤ 10000) (hk : KeyedJ js) :
    Calls Try.prog 45 #[.slice (some ⟨g, 0, none⟩) js.length cap, .func (.func 46) #[] #[]] w fun e w' => e = .returned (.tuple #[]) ∧ w'.ownsRow base 39 5 (.slice (some ⟨g, 0, none⟩) js.length cap) js.length ((sortJ js).map Jb.cs).flatten ∧ Keeps (fun k => k = g) w w' := by
  rcases h.2 with ⟨q, _⟩ | ⟨g', cap', cur, hv, hbg, hg, h1, h2, h3, h4⟩
  · cases q
  · simp only [Value.slice.injEq, Option.some.injEq, Addr.mk.injEq, and_true, true_and] at hv
    obtain ⟨rfl, rfl⟩ := hv
    have hH : Go.Sort.HoldsK Jb.cs 5 w g 0 js.toArray := holds_of_row (F := Go.Sort.flatK Jb.cs 5 js.toArray) hg (by rw [flatK_jobs, Go.Sort.size_flatK]; simpa using h4)
    have eg : ∀ args w, (callFunc 46 args).run Try.prog w = .ok (.enter 46 args) w := enters_of Try.func46 (by kernel_rfl) rfl
    have hc := AnyQ.slices_SortFunc sortJ_lays 5 Try.isAgg39 Try.sizeOf39 Jb.cs (fun _ => rfl) oneJ cfJ swoJ 46 #[] g 0 cap js.toArray w eg (cmpLaysJ g 0 _ w) hH (h.lt g rfl).2 (by simp; omega)
    refine Calls.mono hc ?_
    rintro e w' ⟨rfl, d', n, os, hp, hs, rfl⟩
    have hsz : d'.size = js.length := by simpa using hp.1
    have hperm : d'.toList.Perm js := by
      have := hp.2.2
      simp at this
      rw [List.take_of_length_le (by simp [hsz])] at this
      exact this
    have hsort : SortedJ d'.toList := by
      unfold SortedJ
      rw [List.pairwise_iff_getElem]
      intro i j hi hj hij
      have := hs i j (Nat.zero_le _) hij (by simpa [hsz] using hj)
      rw [getElem!_pos _ j (by simpa using hj), getElem!_pos _ i (by simpa using hi)] at this
      have h0 : ltOf cfJ d'[j] d'[i] = false := this
      exact h0
    have he : d'.toList = sortJ js := sort_one hk hperm hsort
    have hd : d' = (sortJ js).toArray := by rw [← he]
    subst hd
    have fl : (Go.Sort.flatK Jb.cs 5 (sortJ js).toArray).toList = ((sortJ js).map Jb.cs).flatten := flatK_jobs _
    refine ⟨rfl, ⟨by rw [flatJ_len, sortJ_len], .inr ⟨g, cap, _, rfl, hbg, heap_put (Go.Sort.flatK Jb.cs 5 (sortJ js).toArray) hg, h1, h2, by simp [Go.Sort.putCells, h3], ?_⟩⟩, keeps_put _⟩
    have hz : (Go.Sort.flatK Jb.cs 5 (sortJ js).toArray).size = js.length * 5 := by rw [Go.Sort.size_flatK]; simp [sortJ_len]
    have := take_put (cur := cur) (Go.Sort.flatK Jb.cs 5 (sortJ js).toArray) (by rw [hz, h3]; exact Nat.mul_le_mul_right 5 h1)
    rw [hz, fl] at this
    exact this
theorem jsort_none (cap : Nat) (w : World) : Calls Try.prog 45 #[.slice none 0 cap, .func (.func 46) #[] #[]] w fun e w' => e = .returned (.tuple #[]) ∧ w = w' :=
  Calls.mono (AnyF.slices_SortFunc_none sortJ_lays none cap (.func (.func 46) #[] #[]) w) fun _ _ ⟨a, b⟩ => ⟨a, b.symm⟩
end Go.Proofs.Ytnlgophgglgneaa
namespace Go.Proofs.Ytnlgophgglgneaa
open Go.RowKit

theorem Try.infoJ : (Try.prog.info? 39).map (fun i => (i.zero, i.size, i.bytes)) = some (some (.agg #[.int .i64 0, .int .i64 0, .int .i64 0, .int .i64 0, .int .i64 0]), 5, 40) := by kernel_rfl
/-- append of one job to what is owned -/
theorem app_job {w : World} {ops : Array Oper} {rest : List Oper} {o : Oper} {act : Act} {Q : Exit → Act → World → Prop} (hgd : o.guard = none) (s x : Operand)
    (ho : o.op = .call { callee := .builtin .append, args := #[s, x], argTypes := #[43, 43] }) (base : Nat)
    (v : Value) (ns : List Jb) (hs : act.eval s = v) (hown : w.ownsRow base 39 5 v ns.length (ns.map Jb.cs).flatten) (g : Nat) (e : Jb) (hx : act.eval x = .slice (some ⟨g, 0, none⟩) 1 1)
    (hg : w.heap[g]? = some (.cells e.arr 39 (0, 0))) (hb : base ≤ w.heap.size) (hsm : ns.length ≤ 100000)
    (h : ∀ v' w', w'.ownsRow base 39 5 v' (ns ++ [e]).length ((ns ++ [e]).map Jb.cs).flatten → w.grownBy w' v.ownBlock → wpList Try.prog ops Q rest (act.put o.dst v') w') : wpList Try.prog ops Q (o :: rest) act w := by
  obtain ⟨i0, hi, hz0, hz1, hz2⟩ := info_parts Try.infoJ
  refine wpList_append_own _ hgd s x _ ho base _ i0 _ 5 40 Try.underlying43 hi hz0 hz1 hz2 rfl (by decide) v _ _ hs hown ⟨g, 0, none⟩ 1 1 e.cs hx rfl (World.news_of_block (cs := e.arr) (t := 39) (fr := (0, 0)) hg) (oneJ e) (by unfold maxLen; omega) (by omega) hb ?_
  intro v2 w2 ho2 hg2 _
  refine h v2 w2 ?_ hg2
  rw [List.length_append, List.map_append, List.flatten_append]
  simpa using ho2
/-- a call that answers a new row of jobs -/
def GivesJ (w : World) (js : List Jb) (e : Ending) (w' : World) : Prop :=
  ∃ a cap, e = .returned (.slice a js.length cap) ∧ RowF w' a js.length cap 5 (js.map Jb.cs) ∧ Below w.heap.size w w' ∧ Fresh w.heap.size a
theorem below_row {B : Nat} {w W W' : World} {v : Value} {n : Nat} {xs : List Value} {T : TypeId} {sz : Nat} (hb : Below w.heap.size w W) (h : W.ownsRow B T sz v n xs) (hB : w.heap.size ≤ B) (k : W.grownBy W' v.ownBlock) : Below w.heap.size w W' :=
  hb.grown k hb.size (fun g hg => Nat.le_trans hB (h.lt g hg).1)
set_option maxRecDepth 20000 in
set_option maxHeartbeats 4000000 in
theorem sjobs_any (g gc cap : Nat) (s : SS) (t : Int) (w : World) (h : SAt w g gc cap s) (hs : s.served ≤ 1000000) :
    Calls Try.prog 19 #[.pointer (some ⟨g, 0, none⟩), .int .i64 t] w (GivesJ w (jobsV s t)) := by
  cases m : mayS s t with
  | false =>
    have V := Lib.hid (jobsV_no m)
    have H := Lib.hid h
    have M := Lib.hid m
    clear h m
    go_enter Try.func19, Try.ntmps19
    go_wp2_with fail
    go_step3
    go_wp2_with fail
    refine (smay_any H.out t false M.out).mono ?_
    rintro e w1 ⟨rfl, rfl⟩
    go_wp2
    try rw [Exit.noGoto_ret]
    go_ret
    refine ⟨none, 0, by rw [V.out]; rfl, by rw [V.out]; exact RowF.nil, Below.refl _ _, Fresh.none⟩
  | true =>
    have V := Lib.hid (jobsV_yes m)
    have H := Lib.hid h
    have M := Lib.hid m
    have GD := Lib.hid h.good
    have ⟨l1, l2⟩ := h.lt
    have n8 : s.n ≤ 8 := h.good.may.few
    clear h m
    go_enter Try.func19, Try.ntmps19
    go_wp2_with fail
    go_step3
    go_wp2_with fail
    refine (smay_any H.out t true M.out).mono ?_
    rintro e w1 ⟨rfl, rfl⟩
    go_wp2_with fail
    refine (swaiting_any g t w).mono ?_
    rintro e W2 ⟨rfl, hw, hb2⟩
    have WT := Lib.hid hw
    have S2 := Lib.hid (H.out.below hb2)
    have B2 := Lib.hid hb2
    have Z2 := Lib.hid (show w.heap.size + 2 ≤ W2.heap.size by have := hw.y.lt; omega)
    obtain ⟨q, hq⟩ : ∃ q, w.heap.size = q := ⟨_, rfl⟩
    rw [hq] at WT ⊢
    have Q := Lib.hid hq
    clear hw hb2 hq
    have c0 := S2.out.box.cell 0
    simp [boxS] at c0
    obtain ⟨n, hn⟩ : ∃ n, s.n = n := ⟨_, rfl⟩
    have HN := Lib.hid hn
    rw [hn] at c0 n8
    clear hn
    go_wp2
    go_step3
    go_wp2
    clear c0
    go_loopw [5, 23] (fun u v wr => ∃ i : Nat, v = .int .i64 i ∧ i ≤ n ∧ wr.ownsRow W2.heap.size 39 5 u (jobsN s t i).length ((jobsN s t i).map Jb.cs).flatten ∧ Below W2.heap.size W2 wr) (fun _ v _ => n - (intOf v).toNat)
    case atStart => exact ⟨0, rfl, by omega, World.ownsRow_nil _ _ _ _, Below.refl _ _⟩
    case round =>
      obtain ⟨i, rfl, i1, hO, hB⟩ := hrel
      have O := Lib.hid hO
      have B := Lib.hid hB
      have SR := Lib.hid (S2.out.below hB)
      have WR := Lib.hid (WT.out.below hB)
      clear hO hB
      by_cases go : i < n
      · have b1 : decide (i < n) = true := by simp; omega
        have b2 : decide ((i : Int) < (n : Int)) = true := by simp; omega
        have hi := Lib.hid (show i < s.n by rw [HN.out]; exact go)
        have CN := Lib.hid (fun k (hk : k < 1000) => cnt_is GD.out hi.out hk (t := t))
        have CL := Lib.hid (cnt_le s t i)
        have NL := Lib.hid (jobsN_len s t i)
        obtain ⟨wa, hwa⟩ : ∃ wa, wa = wr := ⟨_, rfl⟩
        rw [← hwa] at O B SR WR ⊢
        clear hwa
        go_wp2
        go_loopw [5, 26] (fun u v wr => ∃ k : Nat, v = .int .i64 k ∧ k ≤ 1000 ∧ k ≤ cntS s t i ∧ wr.ownsRow W2.heap.size 39 5 u (jobsN s t i ++ partJ s i k).length ((jobsN s t i ++ partJ s i k).map Jb.cs).flatten ∧ Below W2.heap.size W2 wr) (fun _ v _ => 1000 - (intOf v).toNat)
        case atStart => exact ⟨0, rfl, by omega, by omega, by rw [show partJ s i 0 = [] from rfl, List.append_nil]; exact O.out, B.out⟩
        case round =>
          obtain ⟨k, rfl, k1, k2, hO, hB⟩ := hrel
          have O := Lib.hid hO
          have B := Lib.hid hB
          have SR := Lib.hid (S2.out.below hB)
          have WR := Lib.hid (WT.out.below hB)
          have JL := Lib.hid (show (jobsN s t i ++ partJ s i k).length ≤ 9000 by rw [List.length_append, partJ_len]; have := NL.out; omega)
          clear hO hB
          by_cases gk : k < 1000
          · have b3 : decide ((k : Int) < 1000) = true := by simp; omega
            have CK := Lib.hid (CN.out k gk)
            have PS := Lib.hid (show jobsN s t i ++ partJ s i (k + 1) = (jobsN s t i ++ partJ s i k) ++ [jobS s i k] by rw [partJ_succ, List.append_assoc])
            obtain ⟨J1, hJ1⟩ : ∃ J, jobS s i k = J := ⟨_, rfl⟩
            have HJ1 := Lib.hid hJ1
            rw [hJ1] at CK PS
            clear hJ1
            obtain ⟨wb, hwb⟩ : ∃ wb, decide (J1.rel ≤ t) = wb := ⟨_, rfl⟩
            have WB := Lib.hid hwb
            clear hwb
            go_wp2_with fail
            refine (sjob_any g gc cap q (q + 1) s t i k wr SR.out WR.out hi.out (by omega) hs J1 HJ1.out wb WB.out).mono ?_
            rintro e W3 ⟨rfl, hb3⟩
            have O3 := Lib.hid (owns_below O.out hb3)
            have B3 := Lib.hid (B.out.trans (hb3.mono B.out.size))
            clear hb3 O B
            obtain ⟨p1, n1, r1, d1, f1⟩ := J1
            simp only [Jb.v]
            obtain ⟨W4, hW4⟩ : ∃ W4, W3.alloc (.cells #[.int .i64 p1, .int .i64 n1, .int .i64 r1, .int .i64 d1, .int .i64 f1] 39) = W4 := ⟨_, rfl⟩
            have XB := Lib.hid (show Blk W4 39 W3.heap.size #[.int .i64 p1, .int .i64 n1, .int .i64 r1, .int .i64 d1, .int .i64 f1] by rw [← hW4]; exact Blk.new _ _ _)
            have O4 := Lib.hid (show W4.ownsRow W2.heap.size 39 5 u5 (jobsN s t i ++ partJ s i k).length ((jobsN s t i ++ partJ s i k).map Jb.cs).flatten by rw [← hW4]; exact owns_below O3.out (wbox _ _))
            have B4 := Lib.hid (show Below W2.heap.size W2 W4 by rw [← hW4]; exact B3.out.alloc B3.out.size _)
            clear O3 B3
            cases wb with
            | false =>
              have KC := Lib.hid (show k = cntS s t i by have h1 : ¬ r1 ≤ t := by have h2 := WB.out; simp at h2; omega
                                                         have h3 : ¬ k < cntS s t i := fun hk => h1 (CK.out.mpr hk)
                                                         omega)
              go_wp2
              go_roundw
              case rel => exact ⟨i + 1, by go_num, by omega, by rw [jobsN, ← KC.out]; exact O4.out, B4.out⟩
              case measure => simp [intOf]; omega
            | true =>
              have KC := Lib.hid (show k < cntS s t i from CK.out.mp (show r1 ≤ t by have h2 := WB.out; simp at h2; omega))
              have x0 := XB.out.cell 0; have x1 := XB.out.cell 1; have x2 := XB.out.cell 2; have x3 := XB.out.cell 3; have x4 := XB.out.cell 4
              simp at x0 x1 x2 x3 x4
              obtain ⟨W5, hW5⟩ : ∃ W5, W4.alloc (.cells #[.int .i64 p1, .int .i64 n1, .int .i64 r1, .int .i64 d1, .int .i64 f1] 39) = W5 := ⟨_, rfl⟩
              have O5 := Lib.hid (show W5.ownsRow W2.heap.size 39 5 u5 (jobsN s t i ++ partJ s i k).length ((jobsN s t i ++ partJ s i k).map Jb.cs).flatten by rw [← hW5]; exact owns_below O4.out (wbox _ _))
              have B5 := Lib.hid (show Below W2.heap.size W2 W5 by rw [← hW5]; exact B4.out.alloc B4.out.size _)
              have N5 := Lib.hid (show W5.heap[W4.heap.size]? = some (.cells (Jb.arr ⟨p1, n1, r1, d1, f1⟩) 39 (0, 0)) by rw [← hW5]; exact heap_alloc_new _ _)
              go_wp2_with (at_builtin; refine app_job rfl _ _ rfl W2.heap.size u5 (jobsN s t i ++ partJ s i k) rfl O5.out W4.heap.size ⟨p1, n1, r1, d1, f1⟩ rfl N5.out B5.out.size (by have := JL.out; omega) ?_; intro v2 w8 hown2 hgrow2; have HO2 := Lib.hid hown2; have HG2 := Lib.hid hgrow2; clear hown2 hgrow2)
              go_roundw
              case rel =>
                refine ⟨k + 1, by go_num, by omega, by have := KC.out; omega, by rw [PS.out]; exact HO2.out, ?_⟩
                exact B5.out.grown HG2.out B5.out.size (fun g hg => (O5.out.lt g hg).1)
              case measure => simp [intOf]; omega
          · have b3 : decide ((k : Int) < 1000) = false := by simp; omega
            have KC := Lib.hid (show k = cntS s t i by have := CL.out; omega)
            go_wp2
            go_roundw
            case rel => exact ⟨i + 1, by go_num, by omega, by rw [jobsN, ← KC.out]; exact O.out, B.out⟩
            case measure => simp [intOf]; omega
      · have b1 : decide (i < n) = false := by simp; omega
        have b2 : decide ((i : Int) < (n : Int)) = false := by simp; omega
        have EN := Lib.hid (show i = s.n by rw [HN.out]; omega)
        have BW := Lib.hid (show Below w.heap.size w wr from below_next B2.out B.out)
        have JL := Lib.hid (show (jobsN s t s.n).length ≤ 9000 by have h1 := jobsN_len s t s.n; have h2 := HN.out; omega)
        have KY := Lib.hid (jobsN_keyed GD.out t)
        rw [EN.out] at O
        rcases O.out.2 with ⟨hv, hz⟩ | ⟨gg, cap2, cur, hv, hbg, hg, h1, h2, h3, h4⟩
        · subst hv
          have EZ := Lib.hid (show jobsN s t s.n = [] from List.length_eq_zero_iff.mp hz)
          clear hz
          go_wp2_with fail
          refine (jsort_none _ _).mono ?_
          rintro e w9 ⟨rfl, rfl⟩
          go_wp2
          try rw [Exit.noGoto_ret]
          go_ret
          refine ⟨none, 0, by rw [V.out, EZ.out]; rfl, by rw [V.out, EZ.out]; exact RowF.nil, by rw [Q.out] at *; exact BW.out, Fresh.none⟩
        · subst hv
          obtain ⟨len, hlen⟩ : ∃ len, (jobsN s t s.n).length = len := ⟨_, rfl⟩
          have LN := Lib.hid hlen
          have SO := Lib.hid (jsort_any (jobsN s t s.n) W2.heap.size gg cap2 wr O.out (by have := JL.out; omega) KY.out)
          rw [hlen] at SO h1
          rw [hlen]
          clear hlen hg h3 h4
          go_wp2_with fail
          refine SO.out.mono ?_
          rintro e w9 ⟨rfl, hown, hk⟩
          have HO := Lib.hid hown
          have K9 := Lib.hid hk
          clear hown hk SO
          go_wp2
          try rw [Exit.noGoto_ret]
          go_ret
          have SL := sortJ_len (jobsN s t s.n)
          obtain ⟨a9, cap9, hv9, hr9, hf9⟩ := rowF_of_owns (wideJ _) HO.out (by rw [List.length_map, SL, LN.out])
          simp only [Value.slice.injEq, true_and] at hv9
          obtain ⟨rfl, rfl⟩ := hv9
          refine ⟨_, _, by rw [V.out, SL, LN.out]; rfl, by rw [V.out, SL, LN.out]; exact hr9, ?_, ?_⟩
          · exact K9.out.below BW.out (fun k e => by subst e; have := Z2.out; omega) BW.out.size
          · exact hf9.mono (by have := Z2.out; omega)
end Go.Proofs.Ytnlgophgglgneaa
