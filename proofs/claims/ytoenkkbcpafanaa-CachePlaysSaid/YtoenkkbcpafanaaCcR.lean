/- No reference twice; the laws' own has. -/
import Derived.Test.YtoenkkbcpafanaaCcP


namespace Go.Proofs.Ytoenkkbcpafanaa.caches
set_option linter.unusedVariables false
set_option linter.unusedSimpArgs false
open Go.RowKit Go.Proofs.Ytoenkkbcpafanaa.base Go.Proofs.Ytoenkkbcpafanaa.vers Go.Proofs.Ytoenkkbcpafanaa.nodes Go.Proofs.Ytoenkkbcpafanaa.trees

def ND (L : List PH) : Prop := (L.map (fun x => x.1)).Nodup
theorem outL_sub {α : Type} (l : List α) (i : Nat) : (outL l i).Sublist l := by
  have h : (l.drop (i + 1)).Sublist (l.drop i) := by rw [← List.drop_drop]; exact List.drop_sublist _ _
  have h2 := (List.Sublist.refl (l.take i)).append h
  rw [List.take_append_drop] at h2
  exact h2
theorem ND.sub {L M : List PH} (h : ND L) (hs : M.Sublist L) : ND M := List.Nodup.sublist (hs.map _) h
theorem ND.mem_out {L : List PH} (h : ND L) {i : Nat} (hi : i < L.length) {x : PH} (hx : x ∈ outL L i) : x.1 ≠ L[i].1 := by
  have e : L = L.take i ++ L[i] :: L.drop (i + 1) := by rw [← List.drop_eq_getElem_cons hi, List.take_append_drop]
  have h1 := h
  unfold ND at h1
  rw [e, List.map_append, List.map_cons, List.nodup_append] at h1
  obtain ⟨_, h2, h3⟩ := h1
  rcases List.mem_append.1 hx with h4 | h4
  · exact h3 x.1 (List.mem_map_of_mem h4) L[i].1 List.mem_cons_self
  · exact fun e2 => (List.nodup_cons.1 h2).1 (e2 ▸ List.mem_map_of_mem h4)
theorem atR_none {L : List PH} {r : R} : atR L r = none ↔ ∀ x ∈ L, x.1 ≠ r := by
  unfold atR
  rw [List.findIdx?_eq_none_iff]
  simp
theorem ND.snoc {L : List PH} (h : ND L) (x : PH) (hx : ∀ y ∈ L, y.1 ≠ x.1) : ND (L ++ [x]) := by
  unfold ND
  rw [List.map_append, List.nodup_append]
  refine ⟨h, by simp, fun a ha b hb => ?_⟩
  obtain ⟨y, hy, rfl⟩ := List.mem_map.1 ha
  simp at hb
  rw [hb]
  exact hx y hy
theorem makeP_sub (room : Nat) (L : List PH) : (makeP room L).2.Sublist L := by
  unfold makeP
  split
  · exact List.Sublist.refl _
  · split
    · exact List.Sublist.refl _
    · exact outL_sub _ _
theorem ND.put {L : List PH} (h : ND L) (room : Nat) (r : R) (y : P3) : ND (putP room L r y).2 := by
  unfold putP
  split
  · rename_i i hi
    obtain ⟨hl, hr⟩ := atR_lt hi
    exact (h.sub (outL_sub L i)).snoc _ fun z hz => by rw [← hr]; exact h.mem_out hl hz
  · rename_i hi
    split
    · exact (h.sub (makeP_sub room L)).snoc _ fun z hz => atR_none.1 hi z ((makeP_sub room L).subset hz)
    · exact h.sub (makeP_sub room L)
theorem repL_fst (L : List PH) (k i : Nat) : (repL (withPins k) L i).map (fun x => x.1) = L.map (fun x => x.1) ∨ L.length ≤ i := by
  rcases Nat.lt_or_ge i L.length with h | h
  · left
    rw [repL_eq _ L h]
    have e : L = L.take i ++ L[i] :: L.drop (i + 1) := by rw [← List.drop_eq_getElem_cons h, List.take_append_drop]
    have e2 := congrArg (List.map (fun x : PH => x.1)) e
    rw [e2]
    simp only [List.map_append, List.map_cons, withPins]
  · exact .inr h
theorem ND.rep {L : List PH} (h : ND L) (k i : Nat) (hi : i < L.length) : ND (repL (withPins k) L i) := by
  unfold ND
  rcases repL_fst L k i with e | e
  · rw [e]; exact h
  · omega
theorem ND.pin {L : List PH} (h : ND L) (r : R) : ND (pinP L r).2 := by
  unfold pinP
  split
  · exact h
  · rename_i i hi
    exact h.rep _ _ (atR_lt hi).1
theorem ND.unpin {L : List PH} (h : ND L) (r : R) : ND (unpinP L r).2 := by
  unfold unpinP
  split
  · exact h
  · rename_i i hi
    split
    · exact h
    · exact h.rep _ _ (atR_lt hi).1
theorem drop1_sub (L : List PH) (r : R) : (drop1 L r).Sublist L := by
  unfold drop1
  split
  · exact List.Sublist.refl _
  · exact outL_sub _ _
theorem dropP_sub : ∀ (rs : List R) (L : List PH), (dropP L rs).Sublist L
  | [], L => List.Sublist.refl L
  | r :: rs, L => (dropP_sub rs (drop1 L r)).trans (drop1_sub L r)
theorem ND.drop1_gone {L : List PH} (h : ND L) (r : R) : ∀ x ∈ drop1 L r, x.1 ≠ r := by
  unfold drop1
  split
  · rename_i hi
    exact atR_none.1 hi
  · rename_i i hi
    obtain ⟨hl, hr⟩ := atR_lt hi
    intro x hx
    rw [← hr]
    exact h.mem_out hl hx
theorem ND.drop_gone : ∀ (rs : List R) {L : List PH}, ND L → ∀ r ∈ rs, ∀ x ∈ dropP L rs, x.1 ≠ r
  | [], _, _, r, hr => by cases hr
  | s :: rs, L, h, r, hr => fun x hx => by
    rcases List.mem_cons.1 hr with e | e
    · rw [e]
      exact h.drop1_gone s x ((dropP_sub rs (drop1 L s)).subset hx)
    · exact ND.drop_gone rs (h.sub (drop1_sub L s)) r e x hx
theorem dropP_len (L : List PH) (rs : List R) : (dropP L rs).length ≤ L.length := (dropP_sub rs L).length_le
theorem ND.mv {L : List PH} (h : ND L) {i : Nat} (hi : i < L.length) : ND (mvL L i) := ((mvL_perm L hi).map _).nodup_iff.2 h

set_option maxRecDepth 100000 in
set_option maxHeartbeats 16000000 in
theorem has_ok (l : List H) (A : Option Addr) (c : Nat) (F : Nat → Prop) (rk : Nat) (rg ro rn : Int) (w : World) (hr : RdF w F A (cellsH l)) (hF : ∀ b, F b → b < w.heap.size) (hl : l.length ≤ 32) :
    Calls Try.prog 53 #[.slice A l.length c, .agg #[.int .u64 (rk : Int), .int .i64 rg, .int .i64 ro, .int .i64 rn]] w fun e w' => e = .returned (.bool (atR (l.map H.ph) ⟨rk, rg, ro, rn⟩).isSome) ∧ Below w.heap.size w w' := by
  rw [atR_map]
  obtain ⟨ans, hans⟩ : ∃ ans, (l.findIdx? (fun x => decide (x.r = ⟨rk, rg, ro, rn⟩))).isSome = ans := ⟨_, rfl⟩
  rw [hans]
  have HANS := vers.lay hans
  clear hans
  have bA : Below w.heap.size w (w.alloc (.cells #[.int .u64 (rk : Int), .int .i64 rg, .int .i64 ro, .int .i64 rn] 27)) := (Below.refl _ _).alloc (Nat.le_refl _) _
  have kA := vers.lay (Blk.new w 27 #[.int .u64 (rk : Int), .int .i64 rg, .int .i64 ro, .int .i64 rn])
  have HR := vers.lay hr
  have HF := vers.lay hF
  have hq := fun u (x : R) => ref_eql x ⟨rk, rg, ro, rn⟩ u
  have HQ := vers.lay hq
  have H0 := vers.lay (show Below w.heap.size w (w.alloc (.cells #[.int .u64 (rk : Int), .int .i64 rg, .int .i64 ro, .int .i64 rn] 27)) ∧ Below (w.heap.size + 1) (w.alloc (.cells #[.int .u64 (rk : Int), .int .i64 rg, .int .i64 ro, .int .i64 rn] 27)) (w.alloc (.cells #[.int .u64 (rk : Int), .int .i64 rg, .int .i64 ro, .int .i64 rn] 27)) ∧ w.heap.size + 1 ≤ (w.alloc (.cells #[.int .u64 (rk : Int), .int .i64 rg, .int .i64 ro, .int .i64 rn] 27)).heap.size ∧ ∀ i (hi : i < l.length), i < 0 → decide (l[i].r = ⟨rk, rg, ro, rn⟩) = false from ⟨bA, Below.refl _ _, by simp, fun i _ hi => absurd hi (Nat.not_lt_zero _)⟩)
  clear hr hF hq bA
  go_enter Try.func53, Try.ntmps53
  go_upto_region 1 with (fail)
  generalize w.alloc (.cells #[.int .u64 (rk : Int), .int .i64 rg, .int .i64 ro, .int .i64 rn] 27) = W at *
  obtain ⟨q0, hq0⟩ : ∃ q0, w.heap.size = q0 := ⟨_, rfl⟩
  rw [hq0] at kA H0 ⊢
  have HQ0 := vers.lay hq0
  clear hq0
  go_wp2_with fail
  go_loopw [9] (fun i wr => ∃ j : Nat, i = .int .i64 (j : Int) ∧ j ≤ l.length ∧ Hid (Below q0 w wr ∧ Below (q0 + 1) W wr ∧ q0 + 1 ≤ wr.heap.size ∧ ∀ i (hi : i < l.length), i < j → decide (l[i].r = ⟨rk, rg, ro, rn⟩) = false)) (fun i _ => l.length - (RowKit.intOf i).toNat)
  case atStart => exact ⟨0, rfl, Nat.zero_le _, H0⟩
  case round =>
    clear H0
    obtain ⟨j, rfl, hj, HI⟩ := hrel
    by_cases hlt : j < l.length
    · obtain ⟨b, off, rfl, hb, y0, y1, y2, y3, y4, y5, y6, y7⟩ := RdF.h_at (HR.out.agree (Agree.of_below HI.out.1 fun b hb => by rw [← HQ0.out]; exact HF.out b hb)) hlt
      have hbl : b < wr.heap.size := by have := HF.out b hb; have := HQ0.out; have := HI.out.2.2.1; omega
      have hqx := fun u => HQ.out u l[j].r
      have HYES := vers.lay (fun (hp : decide (l[j].r = ⟨rk, rg, ro, rn⟩) = true) => idx_yes (q := fun x : H => decide (x.r = ⟨rk, rg, ro, rn⟩)) hlt hp HI.out.2.2.2)
      have HNO := vers.lay (fun (hp : decide (l[j].r = ⟨rk, rg, ro, rn⟩) = false) i (hi : i < l.length) (hij : i < j + 1) => (show decide (l[i].r = ⟨rk, rg, ro, rn⟩) = false from by
          rcases Nat.lt_or_ge i j with h | h
          · exact HI.out.2.2.2 i hi h
          · obtain rfl : i = j := by omega
            exact hp))
      have kr := kA.out.below HI.out.2.1 (by omega)
      obtain ⟨z0, z1, z2, z3⟩ : wr.cell? ⟨q0, 0, none⟩ = _ ∧ wr.cell? ⟨q0, 1, none⟩ = _ ∧ wr.cell? ⟨q0, 2, none⟩ = _ ∧ wr.cell? ⟨q0, 3, none⟩ = _ := ⟨kr.cell 0, kr.cell 1, kr.cell 2, kr.cell 3⟩
      simp only [List.getElem?_toArray, List.getElem?_cons_zero, List.getElem?_cons_succ] at z0 z1 z2 z3
      have hql := kr.lt
      clear kr hb
      generalize l[j] = x at *
      obtain ⟨⟨xk, xg, xo, xn⟩, xN, xp, xF⟩ := x
      simp only at y0 y1 y2 y3 y4 y5 y6 y7 hqx
      have b3 : Below wr.heap.size wr (wr.alloc (.cells #[.int .u64 (xk : Int), .int .i64 xg, .int .i64 xo, .int .i64 xn, .bool xN.lf, .slice xN.A xN.es.length xN.c, .slice xN.Q xN.ks.length xN.m, .int .i64 (xp : Int)] 110)) := (Below.refl _ _).alloc (Nat.le_refl _) _
      have HB3 := vers.lay b3
      obtain ⟨d, hd⟩ : ∃ d, decide ((⟨xk, xg, xo, xn⟩ : R) = ⟨rk, rg, ro, rn⟩) = d := ⟨_, rfl⟩
      simp only [hd] at hqx
      cases d with
      | true =>
        have HY := vers.lay (HYES.out hd)
        clear hd
        go_wp2_with fail
        go_ret
        refine ⟨by rw [← HANS.out, HY.out]; rfl, ?_⟩
        rw [HQ0.out]
        exact HI.out.1.trans (HB3.out.mono (by have := HI.out.2.2.1; omega))
      | false =>
        have HI2 := vers.lay (show Below q0 w _ ∧ Below (q0 + 1) W _ ∧ q0 + 1 ≤ _ ∧ _ from ⟨HI.out.1.trans (HB3.out.mono (by have := HI.out.2.2.1; omega)), HI.out.2.1.trans (HB3.out.mono HI.out.2.2.1), Nat.le_trans HI.out.2.2.1 HB3.out.size, HNO.out hd⟩)
        clear hd
        go_wp2_with fail
        exact ⟨⟨j + 1, by go_num, hlt, HI2⟩, by first | (simp [RowKit.intOf]; done) | (simp [RowKit.intOf]; omega) | omega⟩
    · obtain rfl : j = l.length := by omega
      have HN := vers.lay (idx_no (l := l) (q := fun x : H => decide (x.r = ⟨rk, rg, ro, rn⟩)) (fun i hi => HI.out.2.2.2 i hi hi))
      go_wp2_with fail
      go_ret
      refine ⟨by rw [← HANS.out, HN.out]; rfl, ?_⟩
      rw [HQ0.out]
      exact HI.out.1
end Go.Proofs.Ytoenkkbcpafanaa.caches
