/- slices.Sorted over a map's keys; thief's Keys, Atoms. -/
import Derived.Test.YtjlglfjikfpboaaThJ
import Derived.Test.YtjlglfjikfpboaaFresh
import Derived.Test.YtjlglfjikfpboaaAtomsLaw


namespace Go.Proofs.Ytjlglfjikfpboaa.thiefs
set_option linter.unusedVariables false
set_option linter.unusedSimpArgs false
open Go.RowKit Go.Shelf Go.Lib Go.Proofs.Ytjlglfjikfpboaa.base Go.Proofs.Ytjlglfjikfpboaa.tm Go.Proofs.Ytjlglfjikfpboaa.lies Go.Proofs.Ytjlglfjikfpboaa.copies Go.Proofs.Ytjlglfjikfpboaa.reads Go.Proofs.Ytjlglfjikfpboaa.texts Go.Proofs.Ytjlglfjikfpboaa.swaps Go.Proofs.Ytjlglfjikfpboaa.sorts

/-- the slice v is the numbers K -/
def Ints (w : World) (v : Value) (K : List Int) : Prop := ∃ A c, v = .slice A K.length c ∧ K.length ≤ c ∧ K.length ≤ 1000000 ∧ Rd w w.heap.size A (K.map (Value.int .u64))
theorem Ints.below {w w' : World} {v : Value} {K : List Int} (h : Ints w v K) (hb : Below w.heap.size w w') : Ints w' v K := by
  obtain ⟨A, c, e, h1, h2, h3⟩ := h
  exact ⟨A, c, e, h1, h2, (h3.below hb).more hb.size⟩
theorem rise_int : ∀ a b : List Int, a.Pairwise (· < ·) → b.Pairwise (· < ·) → (∀ x, x ∈ a ↔ x ∈ b) → a = b
  | [], [], _, _, _ => rfl
  | [], y :: b, _, _, h => by have := (h y).2 List.mem_cons_self; cases this
  | x :: a, [], _, _, h => by have := (h x).1 List.mem_cons_self; cases this
  | x :: a, y :: b, ha, hb, h => by
    obtain ⟨a1, a2⟩ := List.pairwise_cons.1 ha
    obtain ⟨b1, b2⟩ := List.pairwise_cons.1 hb
    have e : x = y := by
      rcases List.mem_cons.1 ((h x).1 List.mem_cons_self) with h1 | h1
      · exact h1
      · rcases List.mem_cons.1 ((h y).2 List.mem_cons_self) with h2 | h2
        · exact h2.symm
        · have := a1 y h2; have := b1 x h1; omega
    subst e
    rw [rise_int a b a2 b2 fun z => ?_]
    constructor
    · intro hz
      rcases List.mem_cons.1 ((h z).1 (List.mem_cons_of_mem _ hz)) with h1 | h1
      · have := a1 z hz; omega
      · exact h1
    · intro hz
      rcases List.mem_cons.1 ((h z).2 (List.mem_cons_of_mem _ hz)) with h1 | h1
      · have := b1 z hz; omega
      · exact h1
/-- what is sorted out of all keys is the keys -/
theorem sorted_keys {K ss : List Int} (hK : Up id K) (hF : Full K ss) {d : Nat → Int} (hp : RP 0 ss.length (fun i => ss.getD i 0) d) (hs : Sorted 0 ss.length d) : (List.range ss.length).map d = K := by
  obtain ⟨s, t, h1, h2, h3, h4, h5⟩ := hp.places
  obtain ⟨m1, m2, _⟩ := hF
  have hg : ∀ i (h : i < ss.length), ss.getD i 0 = ss[i] := fun i h => by rw [List.getD_eq_getElem?_getD, List.getElem?_eq_getElem h]; rfl
  have hlt : ∀ p q, p < q → q < ss.length → d p < d q := fun p q hpq hq => by
    have h6 := hs p q (Nat.zero_le _) hpq hq
    have h7 : d p ≠ d q := fun e => by
      rw [h5, h5] at e
      have a1 := (h3 p (Nat.zero_le _) (by omega)).2
      have a2 := (h3 q (Nat.zero_le _) hq).2
      rw [hg _ a1, hg _ a2] at e
      have e2 := (List.getElem_inj m2).1 e
      have := congrArg t e2
      rw [h2, h2] at this
      omega
    omega
  refine rise_int _ _ ?_ hK fun x => ?_
  · rw [List.pairwise_map]
    exact List.pairwise_iff_getElem.2 fun i j hi hj hij => by
      simp only [List.getElem_range] at *
      simp only [List.length_range] at hj
      exact hlt i j hij hj
  · rw [← m1, List.mem_map]
    constructor
    · rintro ⟨i, hi, rfl⟩
      have hi2 := List.mem_range.1 hi
      have a1 := (h3 i (Nat.zero_le _) hi2).2
      rw [h5, hg _ a1]
      exact List.getElem_mem a1
    · intro hx
      obtain ⟨i, hi, rfl⟩ := List.getElem_of_mem hx
      have a1 := (h4 i (Nat.zero_le _) hi).2
      refine ⟨t i, List.mem_range.2 a1, ?_⟩
      rw [h5, h1]
      exact hg i hi

set_option maxRecDepth 100000 in
set_option maxHeartbeats 2000000 in
theorem insertion_none (w : World) : Calls Try.prog 148 #[.slice none 0 0, .int .i64 0, .int .i64 0] w fun e w' => e = .returned (.tuple #[]) ∧ w' = w := by
  go_enter Try.func148, Try.ntmps148
  go_wp2_with fail
  go_loopw [6] (fun i wr => i = .int .i64 1 ∧ wr = w) (fun _ _ => 0)
  case atStart => exact ⟨rfl, rfl⟩
  case round =>
    obtain ⟨rfl, rfl⟩ := hrel
    go_wp2_with fail
    first | go_end0 | refine bodyPost_end (results_none rfl _ _ _) rfl ?_
    exact ⟨rfl, rfl⟩

set_option maxRecDepth 100000 in
set_option maxHeartbeats 2000000 in
theorem pdq_none (lim : Int) (w : World) : Calls Try.prog 122 #[.slice none 0 0, .int .i64 0, .int .i64 0, .int .i64 lim] w fun e w' => e = .returned (.tuple #[]) ∧ w' = w := by
  have hi := insertion_none w
  go_enter Try.func122, Try.ntmps122
  go_wp2_with fail
  go_loopw [1, 2, 3, 8, 9] (fun s1 s2 s3 s8 s9 wr => s1 = .int .i64 0 ∧ s2 = .int .i64 0 ∧ wr = w) (fun _ _ _ _ _ _ => 0)
  case atStart => exact ⟨rfl, rfl, rfl⟩
  case round =>
    obtain ⟨rfl, rfl, rfl⟩ := hrel
    go_wp2_with (go_at_call 148; refine hi.mono ?_; rintro e w1 ⟨rfl, rfl⟩)
    first | go_end0 | refine bodyPost_ret (results_none rfl _ _ _) rfl ?_
    exact ⟨rfl, rfl⟩

set_option maxRecDepth 100000 in
set_option maxHeartbeats 2000000 in
theorem sort_none (w : World) : Calls Try.prog 85 #[.slice none 0 0] w fun e w' => e = .returned (.tuple #[]) ∧ w' = w := by
  have hc := Try.bits_Len (0 : Int) w (by omega) (by omega)
  have hp := pdq_none
  go_enter Try.func85, Try.ntmps85
  go_wp2_with (first
    | (go_at_call 100; refine hc.mono ?_; rintro e w1 ⟨rfl, rfl⟩)
    | (go_at_call 122; refine (hp _ _).mono ?_; rintro e w2 ⟨rfl, rfl⟩))
  first | go_end0 | refine bodyPost_ret (results_none rfl _ _ _) rfl ?_
  exact ⟨rfl, rfl⟩

set_option maxRecDepth 100000 in
set_option maxHeartbeats 2000000 in
theorem sortedU_any (Bm mk : Nat) (K : List Int) (w : World) (hB : Bm < w.heap.size) (hm : w.cell? ⟨Bm, 0, none⟩ = some (.map (some mk))) (hown : OwnK w mk K) (hK : Up id K) (hlen : K.length ≤ 1000000) :
    Calls Try.prog 52 #[.func (.func 86) #[] #[.pointer (some ⟨Bm, 0, none⟩)]] w fun e w' => ∃ v, e = .returned v ∧ Ints w' v K ∧ Below w.heap.size w w' := by
  go_enter Try.func52, Try.ntmps52
  go_wp2_with fail
  refine (collectU_any Bm mk K w hB hm hown hlen).mono ?_
  rintro e w1 ⟨v, ss, rfl, hF, hrow, hb⟩
  have hsl := hF.2.2
  rcases hrow.2 with ⟨rfl, hz⟩ | ⟨g, cap, cur, rfl, hbase, hgb, r1, r2, r3, r4⟩
  · obtain rfl := List.eq_nil_of_length_eq_zero hz
    have hKn : K = [] := List.eq_nil_iff_forall_not_mem.2 fun x hx => by have := (hF.1 x).2 hx; cases this
    subst hKn
    have hs := sort_none w1
    go_wp2_with (go_at_call 85; refine hs.mono ?_; rintro e w2 ⟨rfl, rfl⟩)
    go_ret
    exact ⟨_, rfl, ⟨none, 0, rfl, Nat.le_refl _, by simp, Rd.nil _ _ _⟩, hb⟩
  · have hrw : Row w1 g ss.length (fun i => ss.getD i 0) := by
      refine ⟨cur, hgb, by omega, fun i hi => ?_⟩
      have := congrArg (fun l => l[i]?) r4
      simp only [List.getElem?_take, List.getElem?_map, Nat.mul_one, if_pos hi, Array.getElem?_toList] at this
      rw [this, List.getElem?_eq_getElem hi]
      simp [List.getD_eq_getElem?_getD, List.getElem?_eq_getElem hi]
    have hs := fresh.sort_ok g ss.length cap _ w1 hrw (by omega)
    have HF := lies.lay hF
    clear hF r4 hrow
    go_wp2_with (go_at_call 85; refine hs.mono ?_; rintro e w2 ⟨rfl, d, hr2, hp2, hs2, hg2⟩)
    go_ret
    have he := sorted_keys hK HF.out hp2 hs2
    have hl : ss.length = K.length := by rw [← he]; simp
    refine ⟨_, rfl, ⟨some ⟨g, 0, none⟩, cap, by rw [← hl]; rfl, by omega, hlen, fun j u hj => ⟨g, 0, rfl, hr2.lt, ?_⟩⟩, hb.grown hg2 hb.size (fun k hk => by injection hk with hk; omega)⟩
    have hjl : j < ss.length := by
      have := (List.getElem?_eq_some_iff.1 hj).1
      rw [List.length_map] at this; omega
    rw [← he, List.map_map, List.getElem?_map, List.getElem?_range hjl] at hj
    rw [Nat.zero_add, hr2.cell hjl]
    exact hj

theorem srt_props (l : List (List UInt8)) (hn : l.Nodup) : (srt l).Pairwise (· < ·) ∧ ∀ x, x ∈ srt l ↔ x ∈ l := by
  have hp : (srt l).Perm l := List.mergeSort_perm _ _
  have h1 : (srt l).Pairwise fun x y => decide (x ≤ y) = true := List.pairwise_mergeSort (fun a b c h1 h2 => by simp only [decide_eq_true_eq] at *; exact List.le_trans h1 h2) (fun a b => by simpa using List.le_total a b) l
  have h2 : (srt l).Nodup := hp.nodup_iff.2 hn
  refine ⟨?_, fun x => hp.mem_iff⟩
  have h3 := h1.and h2
  exact h3.imp fun {a b} h => by
    have h4 := of_decide_eq_true h.1
    rcases Decidable.em (a < b) with h5 | h5
    · exact h5
    · exact absurd (List.le_antisymm h4 (List.not_lt.1 h5)) h.2
theorem txt_any {w : World} {lo : Nat} {v : Value} {ts : List (List UInt8)} (h : Txt w lo v ts) : Txt w 0 v ts := by
  obtain ⟨A, c, e, hl, h⟩ := h
  refine ⟨A, c, e, hl, fun j hj => ?_⟩
  obtain ⟨g, h1, _, h3, h4⟩ := h j hj
  exact ⟨g, h1, Nat.zero_le _, h3, h4⟩
theorem brs_bas (l : List (List UInt8)) : brs (bas l) = l := by
  unfold brs bas
  rw [List.map_map]
  exact (List.map_congr_left fun x _ => by simp [ba]).trans (List.map_id _)
theorem sts_bas (l : List (List UInt8)) : sts (bas l) = l.map encStr := by
  unfold sts bas
  rw [List.map_map]
  exact List.map_congr_left fun x _ => rfl
/-- texts in a row of its own -/
theorem txt_row {w : World} {lo : Nat} {v : Value} {ts : List (List UInt8)} (h : w.ownsRow lo 9 1 v ts.length (ts.map encStr)) (hl : ts.length ≤ 140737488355328) : Txt w lo v ts := by
  have hlt := h.lt
  rcases h.2 with ⟨rfl, hz⟩ | ⟨g, cap, cur, rfl, hbase, hgb, r1, r2, r3, r4⟩
  · obtain rfl := List.eq_nil_of_length_eq_zero hz
    exact ⟨none, 0, rfl, by simp, fun j hj => by simp at hj⟩
  · refine ⟨_, cap, rfl, hl, fun j hj => ⟨g, rfl, hbase, (hlt g rfl).2, ?_⟩⟩
    have := congrArg (fun l => l[j]?) r4
    simp only [List.getElem?_take, List.getElem?_map, Nat.mul_one, if_pos hj, Array.getElem?_toList, List.getElem?_eq_getElem hj, Option.map_some] at this
    rw [Blk.cell (t := 9) (cs := cur) hgb]
    exact this

set_option maxRecDepth 100000 in
set_option maxHeartbeats 2000000 in
theorem sortedS_any (Bm mk : Nat) (K : List (List UInt8)) (w : World) (hB : Bm < w.heap.size) (hm : w.cell? ⟨Bm, 0, none⟩ = some (.map (some mk))) (hown : OwnT w mk K) (hK : K.Pairwise (· < ·)) (hlen : K.length ≤ 1000000) :
    Calls Try.prog 55 #[.func (.func 90) #[] #[.pointer (some ⟨Bm, 0, none⟩)]] w fun e w' => ∃ v, e = .returned v ∧ Txt w' w.heap.size v K ∧ Below w.heap.size w w' := by
  go_enter Try.func55, Try.ntmps55
  go_wp2_with fail
  refine (collectS_any Bm mk K w hB hm hown hlen).mono ?_
  rintro e w1 ⟨v, ss, rfl, hF, hrow, hb⟩
  have hsl := hF.2.2
  have hE : ExtS w.heap.size w1 w1 v (bas ss) := ⟨by rw [sts_bas, bas_len]; exact hrow, Below.refl _ _, fun _ _ _ _ h => h⟩
  have hs := sort_any hE hb.size (by rw [bas_len]; omega)
  rw [brs_bas] at hs
  obtain ⟨s1, s2⟩ := srt_props ss hF.2.1
  have he : srt ss = K := rising_eq _ _ s1 hK fun x => (s2 x).trans (hF.1 x)
  rw [he] at hs
  clear he s1 s2 hE hF hrow
  go_wp2_with (go_at_call 65; refine hs.mono ?_; rintro e w2 ⟨rfl, hb2, hz2, ho2⟩)
  go_ret
  exact ⟨_, rfl, txt_row ho2 (by omega), hb.trans hb2⟩

set_option maxRecDepth 100000 in
set_option maxHeartbeats 2000000 in
theorem keys_ok (l : List ByteArray) (A0 : Option Addr) (c0 : Nat) (w : World) (hT : Ts w w.heap.size l A0 c0) (hl : l.length ≤ 125) :
    Calls Try.prog 14 #[.slice A0 l.length c0] w fun e w' => ∃ (K : List Int) (A : List (List UInt8)) (m : Nat) (v : Value), e = .returned v ∧ Loot (pcs l) K A m ∧ (Ints w' v K ∧ Up id K) ∧ K.length ≤ 500000 ∧ Below w.heap.size w w' := by
  go_enter Try.func14, Try.ntmps14
  go_wp2_with fail
  refine (take_ok l A0 c0 w hT hl).mono ?_
  rintro e w1 ⟨mk, ma, ms, K, A, S, F, Z, rfl, hb, hL, hok, hA⟩
  have hcnt : K.length ≤ 500000 := by
    have h1 := hok.cnt
    have h2 := pcs_size l
    omega
  have hup := hok.upK
  have hf1 := fun u => (f_loot (.map (some mk)) (.map (some ma)) (.map (some ms)) u).1
  have hown := hA.k
  have bB := (Below.refl w1.heap.size w1).alloc (Nat.le_refl _) (.cells #[.map (some mk)] 105)
  have hcell := (Blk.new w1 105 #[.map (some mk)]).cell 0
  have hsort := sortedU_any w1.heap.size mk K (w1.alloc (.cells #[.map (some mk)] 105)) (by simp) (by simp at hcell ⊢) (own_block hown (bB.block _ hown.lt)) hup (by omega)
  have HOK := lies.lay hok
  clear hok
  go_wp2_with (first
    | (go_at_call 53; refine (keysU_any mk w1).mono ?_; rintro e2 w2 ⟨rfl, rfl⟩)
    | (go_at_call 52; refine hsort.mono ?_; rintro e3 w3 ⟨v, rfl, hv, hb3⟩))
  go_ret
  have hb4 := hb.trans (bB.mono hb.size)
  exact ⟨K, A, _, _, rfl, hL, ⟨hv, hup⟩, hcnt, hb4.trans (hb3.mono hb4.size)⟩

set_option maxRecDepth 100000 in
set_option maxHeartbeats 2000000 in
theorem atoms_ok (l : List ByteArray) (A0 : Option Addr) (c0 : Nat) (w : World) (hT : Ts w w.heap.size l A0 c0) (hl : l.length ≤ 125) :
    Calls Try.prog 16 #[.slice A0 l.length c0] w fun e w' => ∃ (K : List Int) (A : List (List UInt8)) (m : Nat) (v : Value), e = .returned v ∧ Loot (pcs l) K A m ∧ (Txt w' 0 v A ∧ A.Pairwise (· < ·)) ∧ A.length ≤ 500000 ∧ Below w.heap.size w w' := by
  go_enter Try.func16, Try.ntmps16
  go_wp2_with fail
  refine (take_ok l A0 c0 w hT hl).mono ?_
  rintro e w1 ⟨mk, ma, ms, K, A, S, F, Z, rfl, hb, hL, hok, hA⟩
  have hcnt : A.length ≤ 500000 := by
    have h1 := hok.cnt
    have h2 := pcs_size l
    omega
  have hup := hok.upA
  have hf1 := fun u => (f_loot (.map (some mk)) (.map (some ma)) (.map (some ms)) u).2.1
  have hown := hA.a
  have bB := (Below.refl w1.heap.size w1).alloc (Nat.le_refl _) (.cells #[.map (some ma)] 107)
  have hcell := (Blk.new w1 107 #[.map (some ma)]).cell 0
  have hsort := sortedS_any w1.heap.size ma A (w1.alloc (.cells #[.map (some ma)] 107)) (by simp) (by simp at hcell ⊢) (own_block hown (bB.block _ hown.lt)) hup (by omega)
  have HOK := lies.lay hok
  clear hok
  go_wp2_with (first
    | (go_at_call 56; refine (keysS_any ma w1).mono ?_; rintro e2 w2 ⟨rfl, rfl⟩)
    | (go_at_call 55; refine hsort.mono ?_; rintro e3 w3 ⟨v, rfl, hv, hb3⟩))
  go_ret
  have hb4 := hb.trans (bB.mono hb.size)
  exact ⟨K, A, _, _, rfl, hL, ⟨txt_any hv, hup⟩, hcnt, hb4.trans (hb3.mono hb4.size)⟩

end Go.Proofs.Ytjlglfjikfpboaa.thiefs
