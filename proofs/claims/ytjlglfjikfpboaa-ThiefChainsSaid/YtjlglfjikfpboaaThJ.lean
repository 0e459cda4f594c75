/- A map's keys, gathered: maps.Keys, slices.AppendSeq, slices.Collect. -/
import Derived.Test.YtjlglfjikfpboaaThGI
import Derived.RangeFuncNested
import Derived.RangeFuncBound
import Derived.RangeFuncCalls
import Derived.RangeFuncLeaves
import Derived.RangeFuncBox
import Derived.Sort.MapsRangeIn
import Derived.Shelf.Abstract
import Derived.Shelf.RegionOpen
import Derived.OwnWalkIn
import Derived.TacticsInMore
import Derived.LoopNIn
import Derived.LoopIn


namespace Go.Proofs.Ytjlglfjikfpboaa.thiefs
set_option linter.unusedVariables false
set_option linter.unusedSimpArgs false
open Go.RowKit Go.Shelf Go.Lib Go.Proofs.Ytjlglfjikfpboaa.base Go.Proofs.Ytjlglfjikfpboaa.tm Go.Proofs.Ytjlglfjikfpboaa.lies Go.Proofs.Ytjlglfjikfpboaa.copies Go.Proofs.Ytjlglfjikfpboaa.reads Go.Proofs.Ytjlglfjikfpboaa.texts
attribute [local go_sem] Oper.semAt_some

section
variable {α : Type} {lit : α → Lit}
/-- what of a map's keys has come -/
def Coll (lit : α → Lit) (K : List α) (left : Lit → Bool) (cnt : Nat) (ss : List α) : Prop := (∀ x, x ∈ ss ↔ x ∈ K ∧ left (lit x) = false) ∧ ss.Nodup ∧ ss.length + cnt ≤ K.length
theorem Coll.start {K : List α} {left : Lit → Bool} (h : ∀ x ∈ K, left (lit x) = true) : Coll lit K left K.length [] :=
  ⟨fun x => ⟨fun hx => by (cases hx), fun hx => by (have := h x hx.1; rw [hx.2] at this; cases this)⟩, List.nodup_nil, by simp⟩
theorem Coll.step {K : List α} {left : Lit → Bool} {cnt cnt' : Nat} {ss : List α} {x : α} (hs : ∀ a b : α, (lit a).sameKey (lit b) = true ↔ a = b) (h : Coll lit K left cnt ss) (hx : x ∈ K) (hl : left (lit x) = true) (hc : cnt' < cnt) : Coll lit K (fun z => left z && !z.sameKey (lit x)) cnt' (ss ++ [x]) := by
  obtain ⟨h1, h2, h3⟩ := h
  refine ⟨fun y => ?_, ?_, by rw [List.length_append]; simp; omega⟩
  · rw [List.mem_append, List.mem_singleton, h1]
    dsimp only
    rw [Bool.and_eq_false_iff, Bool.not_eq_false', hs]
    constructor
    · rintro (⟨a, b⟩ | rfl)
      · exact ⟨a, .inl b⟩
      · exact ⟨hx, .inr rfl⟩
    · rintro ⟨a, b | rfl⟩
      · exact .inl ⟨a, b⟩
      · exact .inr rfl
  · rw [List.nodup_append]
    refine ⟨h2, by simp, fun a ha b hb => ?_⟩
    rw [List.mem_singleton] at hb
    subst hb
    rintro rfl
    have := ((h1 _).1 ha).2
    rw [hl] at this; cases this
/-- all have come -/
def Full (K ss : List α) : Prop := (∀ x, x ∈ ss ↔ x ∈ K) ∧ ss.Nodup ∧ ss.length ≤ K.length
theorem Coll.done {K : List α} {left : Lit → Bool} {cnt : Nat} {ss : List α} (h : Coll lit K left cnt ss) (hl : ∀ z, left z = false) : Full K ss :=
  ⟨fun x => by rw [h.1 x, hl]; simp, h.2.1, by have := h.2.2; omega⟩
end
theorem lit_u (a b : Int) : (Lit.int .u64 a).sameKey (.int .u64 b) = true ↔ a = b := by rw [same_u]; simp
theorem lit_s (a b : List UInt8) : (Lit.string a).sameKey (.string b) = true ↔ a = b := by simp [Lit.sameKey]
theorem inv_u {key : Value} {kl : Lit} (h : keyOf Try.prog 36 key = some kl) : ∃ x : Int, key = .int .u64 x ∧ kl = .int .u64 x := by
  obtain ⟨x, rfl, h2, _⟩ := Maps.keyOf_int_inv Try.underlying36 h
  exact ⟨x, rfl, h2⟩
theorem inv_s {key : Value} {kl : Lit} (h : keyOf Try.prog 9 key = some kl) : ∃ x : List UInt8, key = encStr x ∧ kl = .string x := by
  cases key <;> simp [keyOf, Try.underlying9, mapKey] at h
  exact ⟨_, rfl, h.2.symm⟩
theorem enc_u {a b : Int} (h : Value.int .u64 a = .int .u64 b) : a = b := by injection h
theorem enc_s {a b : List UInt8} (h : encStr a = encStr b) : a = b := by
  unfold encStr at h
  injection h with h
  have := congrArg (fun s : ByteArray => s.data.toList) h
  simpa using this
theorem mem_u {K : List Int} {x : Int} : Maps.has (DB id unitD K) (.int .u64 x) = true ↔ x ∈ K := by
  rw [DB_has]
  unfold lkBy
  rw [List.find?_isSome]
  simp
theorem mem_s {K : List (List UInt8)} {x : List UInt8} : Maps.has (DT K) (.string x) = true ↔ x ∈ K := by rw [DT_has]; simp
theorem oneU (x : Int) : (Value.int .u64 x).oneCell' = true := rfl
theorem oneS (x : List UInt8) : (encStr x).oneCell' = true := rfl
theorem infoU : (Try.prog.info? 36).map (fun i => (i.zero, i.size, i.bytes)) = some (some (.int .u64 0), 1, 8) := by kernel_rfl
theorem infoS : (Try.prog.info? 9).map (fun i => (i.zero, i.size, i.bytes)) = some (some (.string ⟨#[]⟩), 1, 16) := by kernel_rfl

set_option maxRecDepth 100000 in
set_option maxHeartbeats 2000000 in
theorem keys1U_in (F : Fence) (n : Nat) (hF : F.fn 86) (hro : F.round = none) (hn : 1 ≤ n) (l Bm mk : Nat) (K : List Int) (J Jx : List Int → World → Prop)
    (hY : ∀ pre x W, J pre W → pre.length < K.length → YieldAt F (n - 1) Try.prog l #[(Value.int .u64 x)] W fun e W' => (e = .returned (.bool true) ∧ J (pre ++ [x]) W' ∧ KeepsWalks W W') ∨ (e = .returned (.bool false) ∧ Jx (pre ++ [x]) W'))
    (W : World) (hJ : AbidesFrom W.heap.size J) (hm : W.cell? ⟨Bm, 0, none⟩ = some (.map (some mk))) (hown : OwnK W mk K) (h0 : J [] W) :
    CallsIn F n Try.prog 86 #[.func (.yield l) #[] #[], .pointer (some ⟨Bm, 0, none⟩)] W fun e W' => (∃ v, e = .returned v) ∧ ((∃ ss, Full K ss ∧ J ss W') ∨ (∃ pre, True ∧ Jx pre W')) := by
  refine callsIn_of_wp Try.func86 rfl hF ?_ hro
  simp only [Try.ntmps86, List.size_toArray, List.length_cons, List.length_nil, Nat.reduceAdd, Nat.reduceSub, Array.replicate_succ, Array.replicate_zero, List.push_toArray, List.append_toArray, List.nil_append, List.cons_append]
  gi_wp2_with (first
    | (gi_at_range; refine wpListIn_range_own _ rfl _ 105 rfl 36 106 kU Try.underlying105 _ mk K.length _ rfl hown ?_; intro w0 hrg0 hg0 hs0)
    | gi_in)
  go_frame
  gi_loopw [3] (fun _ wr => ∃ (left : Lit → Bool) (cnt : Nat) (ss : List Int), wr.ranges Try.prog 36 (unitElem (H := Value)) mk W.heap.size K.length (DB id unitD K) left cnt ∧ Hid (Coll (Lit.int .u64) K left cnt ss) ∧ Hid (J ss wr))
    (fun _ wr => wr.rangeLeft mk W.heap.size)
  case atStart =>
    refine ⟨_, _, [], hrg0, lies.lay ?_, lies.lay (hJ [] W w0 none h0 hg0 (fun r e => by cases e))⟩
    have h1 := Coll.start (lit := (Lit.int .u64)) (K := K) (left := Maps.has (DB id unitD K)) (fun x hx => mem_u.2 hx)
    rw [show Maps.size (DB id unitD K) = K.length from DB_size K]
    exact h1
  case round =>
    obtain ⟨left, cnt, ss, hrg, hC, hJs⟩ := hrel
    gi_wp2_with (first
      | (gi_at_next; refine wpListIn_next_ranges _ rfl _ rfl 36 kU (unitElem (H := Value)) (Value.int .u64) (fun v : Value => v) (fun key kl hk => by obtain ⟨x, hx, _⟩ := inv_u hk; exact ⟨x, hx⟩) (fun v _ _ => ⟨v, rfl⟩) mk W.heap.size _ _ _ _ rfl hrg ?_ ?_)
      | gi_in)
    · skip
      intro hc0 hl0
      gi_wp2
      go_end0
      exact ⟨⟨_, rfl⟩, .inl ⟨ss, hC.out.done hl0, hJs.out⟩⟩
    · skip
      intro x c kl y1 y2 w2 cnt2 hkey hlk hv hat hrg2 hlt hg2 hs2 hen
      obtain ⟨x', ex, rfl⟩ := inv_u hkey
      obtain rfl : x = x' := enc_u ex
      have hxK : x ∈ K := mem_u.1 (Maps.has_true_of_atKey hat)
      have hJ2 : J ss w2 := hJ ss wr w2 (some W.heap.size) hJs.out hg2 (fun r e => by cases e; exact ⟨Nat.le_refl _, hrg.iter_walk⟩)
      obtain ⟨fn, tmps, assign, body, hy, hR⟩ := hY ss x w2 hJ2 (by have := hC.out.2.2; omega)
      have hC2 := lies.lay (hC.out.step lit_u hxK hlk hlt)
      clear hs2 hxK hJ2 hat hv hkey hC hJs
      gi_wp2
      refine hR.mono ?_
      rintro e W3 (⟨rfl, hJ3, hk3⟩ | ⟨rfl, hJx3⟩)
      · skip
        gi_wp2
        have hrg3 := hrg2.of_walks hk3
        go_roundw
        case rel => exact ⟨_, cnt2, ss ++ [x], hrg3, hC2, lies.lay hJ3⟩
        case measure => rw [hrg3.left_eq, hrg.left_eq]; exact hlt
      · skip
        gi_wp2
        refine bodyPost_ret (results_none rfl _ _ _) rfl ?_
        exact ⟨⟨_, rfl⟩, .inr ⟨_, trivial, hJx3⟩⟩

set_option maxRecDepth 100000 in
set_option maxHeartbeats 2000000 in
theorem keysU_stops (F : Fence) (n : Nat) (hF : F.fn 86) (hro : F.round = none) (hn : 1 ≤ n) (Bm mk : Nat) (K : List Int) (w : World) (hB : Bm < w.heap.size) (hm : w.cell? ⟨Bm, 0, none⟩ = some (.map (some mk))) (hown : OwnK w mk K) :
    SeqStopsK F n Try.prog 86 #[.pointer (some ⟨Bm, 0, none⟩)] (fun x : Int => #[(Value.int .u64 x)]) KeepsWalks (fun ss => Full K ss) (fun _ => True) K.length w := fun l J Jx W hW hJ _ hY h0 =>
  keys1U_in F n hF hro hn l Bm mk K J Jx hY W hJ ((hW.cell (p := ⟨Bm, 0, none⟩) hB).trans hm) (own_block hown (hW.block mk hown.lt)) h0

set_option maxRecDepth 100000 in
set_option maxHeartbeats 2000000 in
theorem keysU_any (mk : Nat) (w : World) : Calls Try.prog 53 #[.map (some mk)] w fun e w' => e = .returned (.func (.func 86) #[] #[.pointer (some ⟨w.heap.size, 0, none⟩)]) ∧ w' = w.alloc (.cells #[.map (some mk)] 105) := by
  go_enter Try.func53, Try.ntmps53
  go_wp2
  go_ret
  exact ⟨rfl, rfl⟩

set_option maxRecDepth 100000 in
set_option maxHeartbeats 2000000 in
theorem seqU_in (F : Fence) (n : Nat) (hA : F.fn 121) (hF : F.fn 86) (hro : F.round = none) (hn : 3 ≤ n) (Bm mk : Nat) (K : List Int) (w : World) (hB : Bm < w.heap.size) (hm : w.cell? ⟨Bm, 0, none⟩ = some (.map (some mk))) (hown : OwnK w mk K) (hlen : K.length ≤ 1000000) :
    CallsIn F n Try.prog 121 #[.slice none 0 0, .func (.func 86) #[] #[.pointer (some ⟨Bm, 0, none⟩)]] w fun e W' => ∃ v ss, e = .returned v ∧ Full K ss ∧ W'.ownsRow w.heap.size 36 1 v ss.length (ss.map (Value.int .u64)) ∧ Below w.heap.size w W' := by
  have h1 : 1 ≤ n := by omega
  obtain ⟨i0, hi0, hz0, hz1, hz2⟩ := info_parts infoU
  refine callsIn_of_wp_marks Try.func121 rfl hA ?_ hro
  simp only [Try.ntmps121, List.size_toArray, List.length_cons, List.length_nil, Nat.reduceAdd, Nat.reduceSub, Array.replicate_succ, Array.replicate_zero, List.push_toArray, List.append_toArray, List.nil_append, List.cons_append]
  gi_wp2
  have bS := Boxed.new w 24 (.slice none 0 0)
  have hB0 : Below w.heap.size w (w.alloc (.cells #[.slice none 0 0] 24)) := (Below.refl _ w).alloc (Nat.le_refl _) _
  have hsz : (w.alloc (.cells #[.slice none 0 0] 24)).heap.size = w.heap.size + 1 := by simp
  have hm0 := (hB0.cell (p := ⟨Bm, 0, none⟩) hB).trans hm
  have hown0 := own_block hown (hB0.block mk hown.lt)
  obtain ⟨W0, hW0⟩ : ∃ W0, w.alloc (.cells #[.slice none 0 0] 24) = W0 := ⟨_, rfl⟩
  rw [hW0] at bS hB0 hsz hm0 hown0 ⊢
  clear hW0
  refine wpIn_rangeFunc_ownH hro h1 (gf := 86) (lb := #[.pointer (some ⟨Bm, 0, none⟩)]) rfl hF (enters_of Try.func86 (by kernel_rfl) rfl)
    (keysU_stops F (n - 1) hF hro (by omega) Bm mk K W0 (by omega) hm0 hown0) walksK_t (walksK_b (w := W0)) (Below.refl _ _) (fun _ => rfl)
    (fun pre W => (∃ v, Boxed W w.heap.size 24 v ∧ W.ownsRow w.heap.size 36 1 v pre.length (pre.map (Value.int .u64)) ∧ True) ∧ Below w.heap.size w W)
    (fun _ _ _ => False)
    (OwnFrom.and (Own.from (holdsRow_own w.heap.size w.heap.size 24 36 1 List.length (fun pre => pre.map (Value.int .u64)) (fun _ _ => True)) _) (ownFrom_below (Nat.le_refl _) (by omega)))
    (fun _ => fun _ _ _ _ h _ _ => h)
    ⟨⟨_, bS, ⟨rfl, .inl ⟨rfl, rfl⟩⟩, trivial⟩, hB0⟩
    (fun x a' W => a' = { tmps := #[.slice none 0 0, .func (.func 86) #[] #[.pointer (some ⟨Bm, 0, none⟩)], .pointer (some ⟨w.heap.size, 0, none⟩), undef, .slice none 0 0, (Value.int .u64 x), .func (.func 86) #[] #[.pointer (some ⟨Bm, 0, none⟩)], (Value.int .u64 x), undef, undef, undef, undef, undef], defers := [] })
    (fun x a' _ X Y row hs hg hr => hs)
    ?assign ?body ?done ?stop
  case assign =>
    rintro l pre x W K' hI hK'
    gi_wp2
    exact hK' _ _ (KeepsFrom.refl _ _) (KeepsWalks.refl _) hI rfl
  case body =>
    rintro l pre x a' W hl ⟨r, hr⟩ ⟨⟨v, hv, hrow, _⟩, hB1⟩ rfl hlt
    have c1 := hv.cell
    have hWs := hB1.size
    gi_wp2_with (first
      | (gi_at_builtin; refine wpListIn_append_own _ rfl _ _ 24 rfl w.heap.size 36 i0 (.int .u64 0) 1 8 Try.underlying24 hi0 hz0 hz1 hz2 rfl (by decide) _ _ _ rfl (hrow.alloc _) ⟨W.heap.size, 0, none⟩ 1 1 [(Value.int .u64 x)] rfl rfl (cell_one_new _ _ _) (by intro u hu; simp at hu; subst hu; exact oneU x) (by unfold maxLen; omega) (by omega) (by simp; omega) ?_; intro v' w3 hown3 hg3 hnil3; obtain ⟨a1, a2, a3, a4, a5⟩ := Boxed.appended hv (by decide) hrow hWs (Nat.le_refl _) hown3 hg3; obtain ⟨g', cap', rfl⟩ := ownsRow_succ hown3; have c3 := a1.cell; have f3 := a1.frozen)
      | gi_in)
    refine ⟨a4.from _, a4.walks, ⟨_, a2, ?_, trivial⟩, hB1.trans (a5.mono (Nat.le_refl _))⟩
    rw [List.length_append, List.map_append]
    exact a3
  case done =>
    rintro D ss W hD hfull ⟨⟨v, hv, hrow, _⟩, hB1⟩ hK'
    have c1 := hv.cell
    gi_wp2
    refine ⟨by simp, .inl ⟨_, _, rfl, run_takeDeferred hK', ?_⟩⟩
    exact ⟨_, results_tmp rfl _ _ _, v, ss, rfl, hfull, ownsRow_putObj hrow _ hK' rfl, hB1.trans (belowK_b (w := w) (Nat.le_refl _) W D _ _ (by omega) hK' rfl rfl)⟩
  case stop =>
    rintro D c pre W hD _ h _
    exact h.elim

set_option maxRecDepth 100000 in
set_option maxHeartbeats 2000000 in
theorem collectU_any (Bm mk : Nat) (K : List Int) (w : World) (hB : Bm < w.heap.size) (hm : w.cell? ⟨Bm, 0, none⟩ = some (.map (some mk))) (hown : OwnK w mk K) (hlen : K.length ≤ 1000000) :
    Calls Try.prog 84 #[.func (.func 86) #[] #[.pointer (some ⟨Bm, 0, none⟩)]] w fun e W' => ∃ v ss, e = .returned v ∧ Full K ss ∧ W'.ownsRow w.heap.size 36 1 v ss.length (ss.map (Value.int .u64)) ∧ Below w.heap.size w W' := by
  have hs : Calls Try.prog 121 #[.slice none 0 0, .func (.func 86) #[] #[.pointer (some ⟨Bm, 0, none⟩)]] w _ := (callsIn_wide (n := 3)).1 (seqU_in Fence.wide 3 trivial trivial rfl (by omega) Bm mk K w hB hm hown hlen)
  go_enter Try.func84, Try.ntmps84
  go_wp2_with (go_at_call 121; refine hs.mono ?_; rintro e w' ⟨v, ss, rfl, q1, q2, q3⟩)
  go_ret
  exact ⟨v, ss, rfl, q1, q2, q3⟩

set_option maxRecDepth 100000 in
set_option maxHeartbeats 2000000 in
theorem keys1S_in (F : Fence) (n : Nat) (hF : F.fn 90) (hro : F.round = none) (hn : 1 ≤ n) (l Bm mk : Nat) (K : List (List UInt8)) (J Jx : List (List UInt8) → World → Prop)
    (hY : ∀ pre x W, J pre W → pre.length < K.length → YieldAt F (n - 1) Try.prog l #[(encStr x)] W fun e W' => (e = .returned (.bool true) ∧ J (pre ++ [x]) W' ∧ KeepsWalks W W') ∨ (e = .returned (.bool false) ∧ Jx (pre ++ [x]) W'))
    (W : World) (hJ : AbidesFrom W.heap.size J) (hm : W.cell? ⟨Bm, 0, none⟩ = some (.map (some mk))) (hown : OwnT W mk K) (h0 : J [] W) :
    CallsIn F n Try.prog 90 #[.func (.yield l) #[] #[], .pointer (some ⟨Bm, 0, none⟩)] W fun e W' => (∃ v, e = .returned v) ∧ ((∃ ss, Full K ss ∧ J ss W') ∨ (∃ pre, True ∧ Jx pre W')) := by
  refine callsIn_of_wp Try.func90 rfl hF ?_ hro
  simp only [Try.ntmps90, List.size_toArray, List.length_cons, List.length_nil, Nat.reduceAdd, Nat.reduceSub, Array.replicate_succ, Array.replicate_zero, List.push_toArray, List.append_toArray, List.nil_append, List.cons_append]
  gi_wp2_with (first
    | (gi_at_range; refine wpListIn_range_own _ rfl _ 107 rfl 9 106 kSt Try.underlying107 _ mk K.length _ rfl hown ?_; intro w0 hrg0 hg0 hs0)
    | gi_in)
  go_frame
  gi_loopw [3] (fun _ wr => ∃ (left : Lit → Bool) (cnt : Nat) (ss : List (List UInt8)), wr.ranges Try.prog 9 (unitElem (H := Value)) mk W.heap.size K.length (DT K) left cnt ∧ Hid (Coll Lit.string K left cnt ss) ∧ Hid (J ss wr))
    (fun _ wr => wr.rangeLeft mk W.heap.size)
  case atStart =>
    refine ⟨_, _, [], hrg0, lies.lay ?_, lies.lay (hJ [] W w0 none h0 hg0 (fun r e => by cases e))⟩
    have h1 := Coll.start (lit := Lit.string) (K := K) (left := Maps.has (DT K)) (fun x hx => mem_s.2 hx)
    rw [show Maps.size (DT K) = K.length from DT_size K]
    exact h1
  case round =>
    obtain ⟨left, cnt, ss, hrg, hC, hJs⟩ := hrel
    gi_wp2_with (first
      | (gi_at_next; refine wpListIn_next_ranges _ rfl _ rfl 9 kSt (unitElem (H := Value)) (encStr) (fun v : Value => v) (fun key kl hk => by obtain ⟨x, hx, _⟩ := inv_s hk; exact ⟨x, hx⟩) (fun v _ _ => ⟨v, rfl⟩) mk W.heap.size _ _ _ _ rfl hrg ?_ ?_)
      | gi_in)
    · skip
      intro hc0 hl0
      gi_wp2
      go_end0
      exact ⟨⟨_, rfl⟩, .inl ⟨ss, hC.out.done hl0, hJs.out⟩⟩
    · skip
      intro x c kl y1 y2 w2 cnt2 hkey hlk hv hat hrg2 hlt hg2 hs2 hen
      obtain ⟨x', ex, rfl⟩ := inv_s hkey
      obtain rfl : x = x' := enc_s ex
      have hxK : x ∈ K := mem_s.1 (Maps.has_true_of_atKey hat)
      have hJ2 : J ss w2 := hJ ss wr w2 (some W.heap.size) hJs.out hg2 (fun r e => by cases e; exact ⟨Nat.le_refl _, hrg.iter_walk⟩)
      obtain ⟨fn, tmps, assign, body, hy, hR⟩ := hY ss x w2 hJ2 (by have := hC.out.2.2; omega)
      have hC2 := lies.lay (hC.out.step lit_s hxK hlk hlt)
      clear hs2 hxK hJ2 hat hv hkey hC hJs
      gi_wp2
      refine hR.mono ?_
      rintro e W3 (⟨rfl, hJ3, hk3⟩ | ⟨rfl, hJx3⟩)
      · skip
        gi_wp2
        have hrg3 := hrg2.of_walks hk3
        go_roundw
        case rel => exact ⟨_, cnt2, ss ++ [x], hrg3, hC2, lies.lay hJ3⟩
        case measure => rw [hrg3.left_eq, hrg.left_eq]; exact hlt
      · skip
        gi_wp2
        refine bodyPost_ret (results_none rfl _ _ _) rfl ?_
        exact ⟨⟨_, rfl⟩, .inr ⟨_, trivial, hJx3⟩⟩

set_option maxRecDepth 100000 in
set_option maxHeartbeats 2000000 in
theorem keysS_stops (F : Fence) (n : Nat) (hF : F.fn 90) (hro : F.round = none) (hn : 1 ≤ n) (Bm mk : Nat) (K : List (List UInt8)) (w : World) (hB : Bm < w.heap.size) (hm : w.cell? ⟨Bm, 0, none⟩ = some (.map (some mk))) (hown : OwnT w mk K) :
    SeqStopsK F n Try.prog 90 #[.pointer (some ⟨Bm, 0, none⟩)] (fun x : (List UInt8) => #[(encStr x)]) KeepsWalks (fun ss => Full K ss) (fun _ => True) K.length w := fun l J Jx W hW hJ _ hY h0 =>
  keys1S_in F n hF hro hn l Bm mk K J Jx hY W hJ ((hW.cell (p := ⟨Bm, 0, none⟩) hB).trans hm) (own_block hown (hW.block mk hown.lt)) h0

set_option maxRecDepth 100000 in
set_option maxHeartbeats 2000000 in
theorem keysS_any (mk : Nat) (w : World) : Calls Try.prog 56 #[.map (some mk)] w fun e w' => e = .returned (.func (.func 90) #[] #[.pointer (some ⟨w.heap.size, 0, none⟩)]) ∧ w' = w.alloc (.cells #[.map (some mk)] 107) := by
  go_enter Try.func56, Try.ntmps56
  go_wp2
  go_ret
  exact ⟨rfl, rfl⟩

set_option maxRecDepth 100000 in
set_option maxHeartbeats 2000000 in
theorem seqS_in (F : Fence) (n : Nat) (hA : F.fn 125) (hF : F.fn 90) (hro : F.round = none) (hn : 3 ≤ n) (Bm mk : Nat) (K : List (List UInt8)) (w : World) (hB : Bm < w.heap.size) (hm : w.cell? ⟨Bm, 0, none⟩ = some (.map (some mk))) (hown : OwnT w mk K) (hlen : K.length ≤ 1000000) :
    CallsIn F n Try.prog 125 #[.slice none 0 0, .func (.func 90) #[] #[.pointer (some ⟨Bm, 0, none⟩)]] w fun e W' => ∃ v ss, e = .returned v ∧ Full K ss ∧ W'.ownsRow w.heap.size 9 1 v ss.length (ss.map (encStr)) ∧ Below w.heap.size w W' := by
  have h1 : 1 ≤ n := by omega
  obtain ⟨i0, hi0, hz0, hz1, hz2⟩ := info_parts infoS
  refine callsIn_of_wp_marks Try.func125 rfl hA ?_ hro
  simp only [Try.ntmps125, List.size_toArray, List.length_cons, List.length_nil, Nat.reduceAdd, Nat.reduceSub, Array.replicate_succ, Array.replicate_zero, List.push_toArray, List.append_toArray, List.nil_append, List.cons_append]
  gi_wp2
  have bS := Boxed.new w 22 (.slice none 0 0)
  have hB0 : Below w.heap.size w (w.alloc (.cells #[.slice none 0 0] 22)) := (Below.refl _ w).alloc (Nat.le_refl _) _
  have hsz : (w.alloc (.cells #[.slice none 0 0] 22)).heap.size = w.heap.size + 1 := by simp
  have hm0 := (hB0.cell (p := ⟨Bm, 0, none⟩) hB).trans hm
  have hown0 := own_block hown (hB0.block mk hown.lt)
  obtain ⟨W0, hW0⟩ : ∃ W0, w.alloc (.cells #[.slice none 0 0] 22) = W0 := ⟨_, rfl⟩
  rw [hW0] at bS hB0 hsz hm0 hown0 ⊢
  clear hW0
  refine wpIn_rangeFunc_ownH hro h1 (gf := 90) (lb := #[.pointer (some ⟨Bm, 0, none⟩)]) rfl hF (enters_of Try.func90 (by kernel_rfl) rfl)
    (keysS_stops F (n - 1) hF hro (by omega) Bm mk K W0 (by omega) hm0 hown0) walksK_t (walksK_b (w := W0)) (Below.refl _ _) (fun _ => rfl)
    (fun pre W => (∃ v, Boxed W w.heap.size 22 v ∧ W.ownsRow w.heap.size 9 1 v pre.length (pre.map (encStr)) ∧ True) ∧ Below w.heap.size w W)
    (fun _ _ _ => False)
    (OwnFrom.and (Own.from (holdsRow_own w.heap.size w.heap.size 22 9 1 List.length (fun pre => pre.map (encStr)) (fun _ _ => True)) _) (ownFrom_below (Nat.le_refl _) (by omega)))
    (fun _ => fun _ _ _ _ h _ _ => h)
    ⟨⟨_, bS, ⟨rfl, .inl ⟨rfl, rfl⟩⟩, trivial⟩, hB0⟩
    (fun x a' W => a' = { tmps := #[.slice none 0 0, .func (.func 90) #[] #[.pointer (some ⟨Bm, 0, none⟩)], .pointer (some ⟨w.heap.size, 0, none⟩), undef, .slice none 0 0, (encStr x), .func (.func 90) #[] #[.pointer (some ⟨Bm, 0, none⟩)], (encStr x), undef, undef, undef, undef, undef], defers := [] })
    (fun x a' _ X Y row hs hg hr => hs)
    ?assign ?body ?done ?stop
  case assign =>
    rintro l pre x W K' hI hK'
    gi_wp2
    exact hK' _ _ (KeepsFrom.refl _ _) (KeepsWalks.refl _) hI rfl
  case body =>
    rintro l pre x a' W hl ⟨r, hr⟩ ⟨⟨v, hv, hrow, _⟩, hB1⟩ rfl hlt
    have c1 := hv.cell
    have hWs := hB1.size
    gi_wp2_with (first
      | (gi_at_builtin; refine wpListIn_append_own _ rfl _ _ 22 rfl w.heap.size 9 i0 (.string ⟨#[]⟩) 1 16 Try.underlying22 hi0 hz0 hz1 hz2 rfl (by decide) _ _ _ rfl (hrow.alloc _) ⟨W.heap.size, 0, none⟩ 1 1 [(encStr x)] rfl rfl (cell_one_new _ _ _) (by intro u hu; simp at hu; subst hu; exact oneS x) (by unfold maxLen; omega) (by omega) (by simp; omega) ?_; intro v' w3 hown3 hg3 hnil3; obtain ⟨a1, a2, a3, a4, a5⟩ := Boxed.appended hv (by decide) hrow hWs (Nat.le_refl _) hown3 hg3; obtain ⟨g', cap', rfl⟩ := ownsRow_succ hown3; have c3 := a1.cell; have f3 := a1.frozen)
      | gi_in)
    refine ⟨a4.from _, a4.walks, ⟨_, a2, ?_, trivial⟩, hB1.trans (a5.mono (Nat.le_refl _))⟩
    rw [List.length_append, List.map_append]
    exact a3
  case done =>
    rintro D ss W hD hfull ⟨⟨v, hv, hrow, _⟩, hB1⟩ hK'
    have c1 := hv.cell
    gi_wp2
    refine ⟨by simp, .inl ⟨_, _, rfl, run_takeDeferred hK', ?_⟩⟩
    exact ⟨_, results_tmp rfl _ _ _, v, ss, rfl, hfull, ownsRow_putObj hrow _ hK' rfl, hB1.trans (belowK_b (w := w) (Nat.le_refl _) W D _ _ (by omega) hK' rfl rfl)⟩
  case stop =>
    rintro D c pre W hD _ h _
    exact h.elim

set_option maxRecDepth 100000 in
set_option maxHeartbeats 2000000 in
theorem collectS_any (Bm mk : Nat) (K : List (List UInt8)) (w : World) (hB : Bm < w.heap.size) (hm : w.cell? ⟨Bm, 0, none⟩ = some (.map (some mk))) (hown : OwnT w mk K) (hlen : K.length ≤ 1000000) :
    Calls Try.prog 89 #[.func (.func 90) #[] #[.pointer (some ⟨Bm, 0, none⟩)]] w fun e W' => ∃ v ss, e = .returned v ∧ Full K ss ∧ W'.ownsRow w.heap.size 9 1 v ss.length (ss.map (encStr)) ∧ Below w.heap.size w W' := by
  have hs : Calls Try.prog 125 #[.slice none 0 0, .func (.func 90) #[] #[.pointer (some ⟨Bm, 0, none⟩)]] w _ := (callsIn_wide (n := 3)).1 (seqS_in Fence.wide 3 trivial trivial rfl (by omega) Bm mk K w hB hm hown hlen)
  go_enter Try.func89, Try.ntmps89
  go_wp2_with (go_at_call 125; refine hs.mono ?_; rintro e w' ⟨v, ss, rfl, q1, q2, q3⟩)
  go_ret
  exact ⟨v, ss, rfl, q1, q2, q3⟩

end Go.Proofs.Ytjlglfjikfpboaa.thiefs
