/- What the laws of cache share: short, refs, a cache's state with bounds. -/
import Derived.Test.YtoenkkbcpafanaaCcM


namespace Go.Proofs.Ytoenkkbcpafanaa.caches
set_option linter.unusedVariables false
set_option linter.unusedSimpArgs false
open Go.RowKit Go.Proofs.Ytoenkkbcpafanaa.base Go.Proofs.Ytoenkkbcpafanaa.vers Go.Proofs.Ytoenkkbcpafanaa.nodes Go.Proofs.Ytoenkkbcpafanaa.trees

theorem Cs.take {w : World} {B : Nat} {l : List CO} {A : Option Addr} {c : Nat} (h : Cs w B l A c) (k : Nat) : Cs w B (l.take k) A c := by
  refine ⟨by rw [List.length_take]; have := h.1; omega, by rw [List.length_take]; have := h.2.1; omega, h.2.2.1, fun j u hj => ?_, fun x hx => h.2.2.2.2 x (List.mem_of_mem_take hx)⟩
  refine h.2.2.2.1 j u ?_
  have e : cellsC l = cellsC (l.take k) ++ cellsC (l.drop k) := by rw [← cellsC_app, List.take_append_drop]
  rw [e]
  exact List.getElem?_append_left (List.getElem?_eq_some_iff.1 hj).1 |>.trans hj
set_option maxRecDepth 100000 in
set_option maxHeartbeats 4000000 in
theorem shortC_any (l : List CO) (A : Option Addr) (c : Nat) (m : Nat) (hm : m ≤ 100) (w : World) (hT : Cs w w.heap.size l A c) :
    Calls Try.prog 33 #[.slice A l.length c, .int .i64 (m : Int)] w fun e w' => e = .returned (.slice A (l.take m).length c) ∧ w' = w := by
  have hlen : l.length ≤ 140737488355328 := by have := hT.2.1; omega
  have hlc := hT.1
  by_cases hlt : m < l.length
  · have d0 : decide ((m : Int) < (l.length : Int)) = true := decide_eq_true (by omega)
    have hkc : m ≤ c := by omega
    have hl2 : (l.take m).length = m := by rw [List.length_take]; omega
    go_enter Try.func33, Try.ntmps33
    go_wp2_with fail
    go_ret
    exact ⟨by rw [hl2]; rfl, rfl⟩
  · have d0 : decide ((m : Int) < (l.length : Int)) = false := decide_eq_false (by omega)
    have hl2 : l.take m = l := List.take_of_length_le (by omega)
    go_enter Try.func33, Try.ntmps33
    go_wp2_with fail
    go_ret
    exact ⟨by rw [hl2]; rfl, rfl⟩
def refsP (l : List Int) : List R := (l.take 40).map ofP
theorem infoRf : (Try.prog.info? 27).map (fun i => (i.zero, i.size, i.bytes)) = some (some (.agg #[.int .u64 0, .int .i64 0, .int .i64 0, .int .i64 0]), 4, 32) := by kernel_rfl
/-- where refs stands -/
structure RfI (w : World) (l : List Int) (j : Nat) (v : Value) (wr : World) : Prop where
  below : Below w.heap.size w wr
  row : wr.ownsRow 0 27 4 v (refsP (l.take j)).length (cellsQ (refsP (l.take j)))
  own : ∀ b, v.ownBlock = some b → w.heap.size ≤ b
theorem refsP_next (l : List Int) {j : Nat} (hj : j < l.length) (h40 : j < 40) : refsP (l.take (j + 1)) = refsP (l.take j) ++ [ofP l[j]] := by
  unfold refsP
  rw [List.take_take, List.take_take, Nat.min_eq_right (by omega), Nat.min_eq_right (by omega), List.take_succ_eq_append_getElem hj, List.map_append]
  rfl
theorem refsP_stay (l : List Int) {j : Nat} (h40 : 40 ≤ j) : refsP (l.take (j + 1)) = refsP (l.take j) := by
  unfold refsP
  rw [List.take_take, List.take_take, Nat.min_eq_left (by omega), Nat.min_eq_left (by omega)]
theorem refsP_len (l : List Int) : (refsP l).length ≤ 40 := by unfold refsP; simp; omega
set_option maxRecDepth 100000 in
set_option maxHeartbeats 4000000 in
theorem refs_any (l : List Int) (A : Option Addr) (c : Nat) (w : World) (hI : Is w w.heap.size l A c) :
    Calls Try.prog 43 #[.slice A l.length c] w fun e w' => ∃ A' c', e = .returned (.slice A' (refsP l).length c') ∧ QsF w' (fun b => w.heap.size ≤ b ∧ b < w'.heap.size) (refsP l) A' c' ∧ Below w.heap.size w w' := by
  have hlen : l.length ≤ 140737488355328 := by have := hI.2.1; omega
  obtain ⟨i0, hi0, hz0, hz1, hz2⟩ := info_parts infoRf
  have HI := vers.lay hI
  have H0 := vers.lay (show RfI w l 0 (.slice none 0 0) w from ⟨Below.refl _ _, ⟨by simp [refsP, cellsQ], .inl ⟨rfl, by simp [refsP]⟩⟩, fun b hb => by simp [Value.ownBlock] at hb⟩)
  clear hI
  go_enter Try.func43, Try.ntmps43
  go_wp2_with fail
  go_loopw [3, 8] (fun v i wr => ∃ j : Nat, i = .int .i64 (j : Int) ∧ j ≤ l.length ∧ Hid (RfI w l j v wr)) (fun _ i _ => l.length - (RowKit.intOf i).toNat)
  case atStart => exact ⟨0, rfl, Nat.zero_le _, H0⟩
  case round =>
    clear H0
    obtain ⟨j, rfl, hj, HR⟩ := hrel
    generalize u3 = v at *
    by_cases hlt : j < l.length
    · obtain ⟨b, off, rfl, hb, y0, hok⟩ := ((HI.out.below HR.out.below).more HR.out.below.size).at_ hlt
      by_cases h40 : j < 40
      · have d4 : decide ((j : Int) < 40) = true := decide_eq_true (by omega)
        have hN := vers.lay (refsP_next l hlt h40)
        have hrl := refsP_len (l.take j)
        generalize l[j] = x at *
        have hof := of_any x wr hok
        obtain ⟨r1, hr1⟩ : ∃ r1, ofP x = r1 := ⟨_, rfl⟩
        rw [hr1] at hof hN
        obtain ⟨rk, rg, ro, rn⟩ := r1
        obtain ⟨rs, hrs⟩ : ∃ rs, refsP (l.take j) = rs := ⟨_, rfl⟩
        have HRS := vers.lay hrs
        rw [hrs] at hN hrl
        clear hok hr1 hrs
        have hrow0 := HR.out.row
        rw [show refsP (l.take j) = rs from HRS.out] at hrow0
        go_upto_region 6 with (fail)
        go_wp2_with (first
          | (go_at_call 34; refine hof.mono ?_; rintro e w1 ⟨rfl, hb1⟩; have hrow1 := row_below hrow0 hb1)
          | (at_builtin; refine wpList_put1 Try.underlying32 hi0 hz0 hz1 hz2 rfl (by decide) rfl _ _ rfl hrow1 rfl rfl (by intro u hu; simp at hu; rcases hu with rfl | rfl | rfl | rfl <;> rfl) rfl rfl (by omega) (by unfold maxLen; omega) ?_; intro v' w2 ho2 hk2 hv2 hz2'))
        have hs1 := hb1.size
        have hs2 := hk2.size
        have HR2 := vers.lay (show RfI w l (j + 1) v' w2 from ⟨(HR.out.below.trans (hb1.mono HR.out.below.size)).trans (hk2.below (fun b hb => HR.out.own b hb) (by have := HR.out.below.size; omega)), by
          rw [hN.out, List.length_append, List.length_singleton, cellsQ_app]
          simpa [cellsQ, rcells] using ho2, fun b hb => by
          rcases hv2 b hb with h | h
          · exact HR.out.own b h
          · have := HR.out.below.size; omega⟩)
        clear HR ho2 hk2 hv2 hrow0 hrow1
        go_wp2_with fail
        exact ⟨⟨j + 1, by go_num, hlt, HR2⟩, by first | (simp [RowKit.intOf]; done) | (simp [RowKit.intOf]; omega) | omega⟩
      · have d4 : decide ((j : Int) < 40) = false := decide_eq_false (by omega)
        have HR2 := vers.lay (show RfI w l (j + 1) v wr from ⟨HR.out.below, by rw [refsP_stay l (by omega)]; exact HR.out.row, HR.out.own⟩)
        go_wp2_with fail
        exact ⟨⟨j + 1, by go_num, hlt, HR2⟩, by first | (simp [RowKit.intOf]; done) | (simp [RowKit.intOf]; omega) | omega⟩
    · obtain rfl : j = l.length := by omega
      have hrow := HR.out.row
      rw [List.take_length] at hrow
      obtain ⟨A', c', rfl, hc, hn, hr⟩ := row_rdF hrow
      have HQ := vers.lay (show QsF wr (fun b => w.heap.size ≤ b ∧ b < wr.heap.size) (refsP l) A' c' from ⟨hc, hn, hr.mono fun b hb => ⟨HR.out.own b hb, (hrow.lt b hb).2⟩, by have := refsP_len l; omega⟩)
      clear hrow hr hc hn
      go_wp2_with fail
      go_ret
      exact ⟨A', c', rfl, HQ.out, HR.out.below⟩

/-! ### bounds of pins -/
def BP (L : List PH) (n : Nat) : Prop := ∀ x ∈ L, x.2.2 ≤ n
theorem BP.mono {L : List PH} {n k : Nat} (h : BP L n) (hk : n ≤ k) : BP L k := fun x hx => Nat.le_trans (h x hx) hk
theorem BP.out {L : List PH} {n : Nat} (h : BP L n) (i : Nat) : BP (outL L i) n := fun x hx => by
  rcases List.mem_append.1 hx with h1 | h1
  · exact h x (List.mem_of_mem_take h1)
  · exact h x (List.mem_of_mem_drop h1)
theorem BP.at_ {L : List PH} {n : Nat} (h : BP L n) (i : Nat) : pinsAt L i ≤ n := by
  unfold pinsAt
  cases hi : L[i]? with
  | none => simp
  | some x => simpa using h x (List.mem_of_getElem? hi)
theorem BP.snoc {L : List PH} {n : Nat} (h : BP L n) (x : PH) (hx : x.2.2 ≤ n) : BP (L ++ [x]) n := fun y hy => by
  rcases List.mem_append.1 hy with h1 | h1
  · exact h y h1
  · rw [List.mem_singleton.1 h1]; exact hx
theorem BP.make {L : List PH} {n room : Nat} (h : BP L n) : BP (makeP room L).2 n := by
  unfold makeP
  split
  · exact h
  · split
    · exact h
    · exact h.out _
theorem BP.put {L : List PH} {n room : Nat} (h : BP L n) (r : R) (y : P3) : BP (putP room L r y).2 n := by
  unfold putP
  split
  · exact (h.out _).snoc _ (h.at_ _)
  · split
    · exact h.make.snoc _ (Nat.zero_le _)
    · exact h.make
theorem BP.rep {L : List PH} {n k : Nat} (h : BP L n) (hk : k ≤ n) (i : Nat) : BP (repL (withPins k) L i) n := fun x hx => by
  unfold repL at hx
  rcases List.mem_append.1 hx with h1 | h1
  · rcases List.mem_append.1 h1 with h2 | h2
    · exact h x (List.mem_of_mem_take h2)
    · cases hi : L[i]? with
      | none => rw [hi] at h2; simp at h2
      | some y =>
        rw [hi] at h2
        simp at h2
        rw [h2]; exact hk
  · exact h x (List.mem_of_mem_drop h1)
theorem BP.pin {L : List PH} {n : Nat} (h : BP L n) (r : R) : BP (pinP L r).2 (n + 1) := by
  unfold pinP
  split
  · exact h.mono (by omega)
  · exact (h.mono (Nat.le_succ n)).rep (by have := h.at_ (i := ‹Nat›); omega) _
theorem BP.unpin {L : List PH} {n : Nat} (h : BP L n) (r : R) : BP (unpinP L r).2 n := by
  unfold unpinP
  split
  · exact h
  · split
    · exact h
    · exact h.rep (by have := h.at_ (i := ‹Nat›); omega) _
theorem BP.drop1 {L : List PH} {n : Nat} (h : BP L n) (r : R) : BP (drop1 L r) n := by
  unfold caches.drop1
  split
  · exact h
  · exact h.out _
theorem BP.drop {n : Nat} : ∀ (rs : List R) {L : List PH}, BP L n → BP (dropP L rs) n
  | [], _, h => h
  | r :: rs, _, h => BP.drop rs (h.drop1 r)
theorem BP.mv {L : List PH} {n : Nat} (h : BP L n) {i : Nat} (hi : i < L.length) : BP (mvL L i) n := fun x hx => h x ((mvL_perm L hi).mem_iff.1 hx)
/-- a cache, made behind w, its numbers no more than n -/
structure RI (w : World) (n : Nat) (wr : World) (p g : Nat) (Z : Nat → Prop) (room f m : Nat) (l : List H) : Prop where
  below : Below w.heap.size w wr
  ca : Ca wr p g Z room f m l
  z : ∀ b, Z b → w.heap.size ≤ b
  bf : f ≤ n
  bm : m ≤ n
  bp : BP (l.map H.ph) n
section
variable {w wr w' : World} {n k p g room f m f' m' : Nat} {Z Z' : Nat → Prop} {l l' : List H}
theorem RI.next (h : RI w n wr p g Z room f m l) (hb : Below wr.heap.size wr w') : RI w n w' p g Z room f m l := ⟨h.below.trans (hb.mono h.below.size), h.ca.below hb, h.z, h.bf, h.bm, h.bp⟩
theorem RI.more (h : RI w n wr p g Z room f m l) (hk : n ≤ k) : RI w k wr p g Z room f m l := ⟨h.below, h.ca, h.z, Nat.le_trans h.bf hk, Nat.le_trans h.bm hk, h.bp.mono hk⟩
theorem RI.step (h : RI w n wr p g Z room f m l) (hc : Ca w' p g Z' room f' m' l') (hk : Keep Z wr w') (hz : ∀ b, Z' b → Z b ∨ (wr.heap.size ≤ b ∧ b < w'.heap.size)) (hf : f' ≤ k) (hm : m' ≤ k) (hp : BP (l'.map H.ph) k) : RI w k w' p g Z' room f' m' l' :=
  ⟨h.below.trans (hk.below h.z h.below.size), hc, fun b hb => by
    rcases hz b hb with e | e
    · exact h.z b e
    · have := h.below.size; omega, hf, hm, hp⟩
theorem RI.same (h : RI w n wr p g Z room f m l) (hc : Ca w' p g Z room f' m' l') (hk : Keep Z wr w') (hf : f' ≤ k) (hm : m' ≤ k) (hp : BP (l'.map H.ph) k) : RI w k w' p g Z room f' m' l' := h.step hc hk (fun b hb => .inl hb) hf hm hp
theorem RI.pins (h : RI w n wr p g Z room f m l) (hn : n < 4611686018427387904) : ∀ x ∈ l, x.p < 4611686018427387904 := fun x hx => by
  have := h.bp x.ph (List.mem_map_of_mem hx)
  exact Nat.lt_of_le_of_lt this hn
/-- what came in is read, and is none of the cache's -/
theorem RI.arg (h : RI w n wr p g Z room f m l) {y : N} (hy : NkOk w w.heap.size y) : NsF wr (fun b => b < w.heap.size) y ∧ ∀ b, b < w.heap.size → b < wr.heap.size ∧ ¬ Z b :=
  ⟨⟨EsF.of (hy.1.below h.below), KsF.of (hy.2.below h.below)⟩, fun b hb => ⟨Nat.lt_of_lt_of_le hb h.below.size, fun e => by have := h.z b e; omega⟩⟩
end
end Go.Proofs.Ytoenkkbcpafanaa.caches
