/- The walk of TreeLost. -/
import Derived.Test.YtboghhiiodlmbaaTrY
import Derived.Deep.CutBlock
import Derived.Deep.DeepCutAuto


namespace Go.Proofs.Ytboghhiiodlmbaa.trees
set_option linter.unusedVariables false
set_option linter.unusedSimpArgs false
open Go.RowKit Go.Proofs.Ytboghhiiodlmbaa.base Go.Proofs.Ytboghhiiodlmbaa.vers Go.Proofs.Ytboghhiiodlmbaa.nodes Go.Proofs.Ytboghhiiodlmbaa.quotas

/-- nodes of one kid each -/
def kidOf (j : Nat) : K := ⟨⟨#[97]⟩, j + 1, ((j / 4 : Nat) : Int), ((j % 4 : Nat) : Int), 1⟩
def cn : Nat → P3
  | 0 => (false, [], [])
  | j + 1 => (false, [], [kidOf j])
def chain (n : Nat) : List P3 := (List.range n).map cn
theorem chain_len (n : Nat) : (chain n).length = n := by simp [chain]
theorem chain_succ (n : Nat) : chain (n + 1) = chain n ++ [cn n] := by simp [chain, List.range_succ]
theorem chain_at {n j : Nat} (h : j < n) : (chain n)[j]? = some (cn j) := by simp [chain, h]
theorem chain_bad {n : Nat} : ∀ (j : Nat), j < n → ∀ d, Bad (chain n) (refOf j) d 70
  | 0, h, d => by
    refine .page ?_
    unfold pageE
    split
    · rfl
    · rw [pageAt_of, chain_at h]; rfl
  | j + 1, h, d => by
    by_cases hd : 8 < d
    · refine .page ?_
      unfold pageE
      rw [if_pos hd]
    · refine .step (es := []) (x := kidOf j) ?_ (chain_bad j (by omega) (d + 1))
      unfold pageE
      rw [if_neg hd, pageAt_of, chain_at h]
      simp [cn]
theorem none_bad (r : R) : Bad [] r 1 71 := by
  refine .page ?_
  unfold pageE pageAt
  rw [if_neg (by omega)]
  have : (if r.k ≠ 0 ∧ r = refOf (r.k - 1) then ([] : List P3)[r.k - 1]? else none) = none := by split <;> rfl
  rw [this]

theorem refOf_ok {j : Nat} (h : j < 1000000) : (refOf j).fits := by
  unfold R.fits i64
  simp only [refOf]
  omega
/-- behind the pages: the heap, the root that is asked, the secret -/
def LT (w : World) (h gE : Nat) (ve : Value) (s : ByteArray) (S : Nat → Prop) (ns : List P3) (r : R) (wr : World) : Prop :=
  Hp wr h S ns ∧ (∀ g, S g → w.heap.size + 1 ≤ g ∧ g ≠ gE) ∧ w.heap.size < gE ∧ Blk wr w.heap.size 27 #[.int .u64 (r.k : Int), .int .i64 r.g, .int .i64 r.o, .int .i64 r.n] ∧ Blk wr gE 47 #[.string s, ve] ∧ Below w.heap.size w wr
theorem LT.next {w : World} {h gE : Nat} {ve : Value} {s : ByteArray} {S : Nat → Prop} {ns : List P3} {r : R} {wr w' : World} (hL : LT w h gE ve s S ns r wr) (hb : Below wr.heap.size wr w') : LT w h gE ve s S ns r w' := by
  obtain ⟨h1, h2, h3, h4, h5, h6⟩ := hL
  exact ⟨h1.below hb, h2, h3, h4.below hb h4.lt, h5.below hb h5.lt, h6.trans (hb.mono h6.size)⟩
def setR (w : World) (g : Nat) (r : R) : World := (((w.setCell ⟨g, 0, none⟩ (.int .u64 (r.k : Int))).setCell ⟨g, 1, none⟩ (.int .i64 r.g)).setCell ⟨g, 2, none⟩ (.int .i64 r.o)).setCell ⟨g, 3, none⟩ (.int .i64 r.n)
theorem setR_heap (w : World) (g : Nat) (r : R) (j : Nat) (h : j ≠ g) : (setR w g r).heap[j]? = w.heap[j]? := by
  unfold setR
  rw [Below.heap_setCell _ _ _ _ (by simpa using h), Below.heap_setCell _ _ _ _ (by simpa using h), Below.heap_setCell _ _ _ _ (by simpa using h), Below.heap_setCell _ _ _ _ (by simpa using h)]
theorem setR_size (w : World) (g : Nat) (r : R) : (setR w g r).heap.size = w.heap.size := by simp [setR]
/-- the page is laid down, its reference is the root that is asked -/
theorem LT.wrote {w : World} {h gE : Nat} {ve : Value} {s : ByteArray} {S : Nat → Prop} {ns : List P3} {r r' : R} {x : P3} {wr w1 w2 w3 : World} (hL : LT w h gE ve s S ns r wr) (hb : Below wr.heap.size wr w1) (hK : Keep S w1 w2) (hH : Hp w2 h (More S w1 w2) (ns ++ [x])) (hb2 : Below w2.heap.size w2 w3) :
    LT w h gE ve s (More S w1 w2) (ns ++ [x]) r' (setR w3 w.heap.size r') := by
  have hL1 := hL.next hb
  obtain ⟨h1, h2, h3, h4, h5, h6⟩ := hL1
  have s2 := hK.size
  have s3 := hb2.size
  have l5 := h5.lt
  have l4 := h4.lt
  refine ⟨?_, ?_, h3, ?_, ?_, ?_⟩
  · refine (hH.below hb2).agree (fun g hg => setR_heap _ _ _ _ ?_) (by rw [setR_size]; exact Nat.le_refl _)
    rcases hg with hg | hg
    · have := h2 g hg; omega
    · omega
  · intro g hg
    rcases hg with hg | hg
    · exact h2 g hg
    · omega
  · have k := (hK.blk h4 (fun e => by have := h2 _ e; omega)).below hb2 (by omega)
    have := (((k.put 0 (.int .u64 (r'.k : Int))).put 1 (.int .i64 r'.g)).put 2 (.int .i64 r'.o)).put 3 (.int .i64 r'.n)
    simpa [setR] using this
  · exact (setR_heap _ _ _ _ (by omega)).trans ((hK.blk h5 (fun e => (h2 _ e).2 rfl)).below hb2 (by omega))
  · have b2 : Below w.heap.size w w3 := (h6.trans (hK.below (fun g hg => by have := h2 g hg; omega) h6.size)).trans (hb2.mono (by have := h6.size; omega))
    exact ((((b2.setCell (p := ⟨w.heap.size, 0, none⟩) (Nat.le_refl _) _).setCell (p := ⟨w.heap.size, 1, none⟩) (Nat.le_refl _) _).setCell (p := ⟨w.heap.size, 2, none⟩) (Nat.le_refl _) _).setCell (p := ⟨w.heap.size, 3, none⟩) (Nat.le_refl _) _)

set_option maxRecDepth 100000 in
set_option maxHeartbeats 4000000 in
theorem law_lost (rk : Nat) (rg ro rn : Int) (s : ByteArray) (deep : Int) (w : World) (hr : (⟨rk, rg, ro, rn⟩ : R).fits) (hd1 : -9223372036854775808 ≤ deep) (hd2 : deep ≤ 9223372036854775807) :
    Calls Try.prog 6 #[.agg #[.int .u64 (rk : Int), .int .i64 rg, .int .i64 ro, .int .i64 rn], .string s, .int .i64 deep] w fun e w' => e = .returned (.bool true) ∧ Below w.heap.size w w' := by
  have kR := Blk.new w 27 #[.int .u64 (rk : Int), .int .i64 rg, .int .i64 ro, .int .i64 rn]
  have b0 : Below w.heap.size w (w.alloc (.cells #[.int .u64 (rk : Int), .int .i64 rg, .int .i64 ro, .int .i64 rn] 27)) := (Below.refl _ _).alloc (Nat.le_refl _) _
  go_enter Try.func6, Try.ntmps6
  go_wp2_with fail
  refine (newHeap_any _).mono ?_
  rintro e w1 ⟨h, rfl, hh1, hH1, hb1⟩
  have b1 := b0.trans (hb1.mono b0.size)
  have s1 := hb1.size
  simp only [World.size_alloc] at hh1 s1
  have kR1 := kR.below hb1 kR.lt
  have hl1 := hH1.lt h rfl
  have bV : Below w1.heap.size w1 ((w1.alloc (.cells #[.int .i64 1, .string ⟨#[]⟩, .string ⟨#[]⟩] 69)).alloc (.cells #[.string s, .slice (some ⟨w1.heap.size, 0, none⟩) 1 1] 47)) := ((Below.refl _ _).alloc (Nat.le_refl _) _).alloc (by simp) _
  have kE := Blk.new (w1.alloc (.cells #[.int .i64 1, .string ⟨#[]⟩, .string ⟨#[]⟩] 69)) 47 #[.string s, .slice (some ⟨w1.heap.size, 0, none⟩) 1 1]
  rw [World.size_alloc] at kE
  have hE0 : LT w h (w1.heap.size + 1) (.slice (some ⟨w1.heap.size, 0, none⟩) 1 1) s (fun g => g = h) [] ⟨rk, rg, ro, rn⟩ ((w1.alloc (.cells #[.int .i64 1, .string ⟨#[]⟩, .string ⟨#[]⟩] 69)).alloc (.cells #[.string s, .slice (some ⟨w1.heap.size, 0, none⟩) 1 1] 47)) :=
    ⟨hH1.below bV, (fun g hg => by subst hg; omega), by omega, kR1.below bV kR1.lt, kE, b1.trans (bV.mono b1.size)⟩
  by_cases d0 : (0 : Int) < deep
  · by_cases d1 : deep < (20 : Int)
    · obtain ⟨n, rfl⟩ := Int.eq_ofNat_of_zero_le (Int.le_of_lt d0)
      clear hd1 hd2
      have hn1 : 1 ≤ n := by omega
      have hn20 : n < 20 := by omega
      have v0 := hE0.2.2.2.1.cell 0
      have v1 := hE0.2.2.2.1.cell 1
      have v2 := hE0.2.2.2.1.cell 2
      have v3 := hE0.2.2.2.1.cell 3
      have e0 := hE0.2.2.2.2.1.cell 0
      have e1 := hE0.2.2.2.2.1.cell 1
      simp at v0 v1 v2 v3 e0 e1
      have lr := hE0.2.2.2.1.lt
      have le := hE0.2.2.2.2.1.lt
      go_wp2_with fail
      generalize (w1.alloc (.cells #[.int .i64 1, .string ⟨#[]⟩, .string ⟨#[]⟩] 69)).alloc (.cells #[.string s, .slice (some ⟨w1.heap.size, 0, none⟩) 1 1] 47) = wz at hE0 v0 v1 v2 v3 e0 e1 lr le bV kE ⊢
      generalize w1.heap.size + 1 = gE at hE0 e0 e1 le kE ⊢
      refine (write_any false [] [] none 0 none 0 h _ [] wz hE0.1 (EsF.nil _ (fun _ => True)).es (KsF.nil _ (fun _ => True)).ks).mono ?_
      rintro e w2 ⟨hK2, hw2⟩
      rw [if_pos (by simp)] at hw2
      obtain ⟨rfl, hH2⟩ := hw2
      have hLA : LT w h gE _ s _ (chain 1) (refOf 0) (setR w2 w.heap.size (refOf 0)) := hE0.wrote (r' := refOf 0) (Below.refl _ _) hK2 hH2 (Below.refl _ _)
      rw [show (refOf ([] : List P3).length).val = .agg #[.int .u64 1, .int .i64 0, .int .i64 0, .int .i64 1] from rfl]
      have kr := hK2.blk hE0.2.2.2.1 (fun e => by have := hE0.2.1 _ e; omega)
      clear v0 v1 v2 v3 e0 e1 lr le
      have v0 := kr.cell 0
      have v1 := kr.cell 1
      have v2 := kr.cell 2
      have v3 := kr.cell 3
      have f0 := kr.frozen 0
      have f1 := kr.frozen 1
      have f2 := kr.frozen 2
      have f3 := kr.frozen 3
      simp at v0 v1 v2 v3
      have lr := kr.lt
      have hst : ∃ S, LT w h gE (.slice (some ⟨w1.heap.size, 0, none⟩) 1 1) s S (chain 1) (refOf 0) (setR w2 w.heap.size (refOf 0)) := ⟨_, hLA⟩
      unfold setR at hst
      rw [show (Value.int .u64 ((refOf 0).k : Int)) = .int .u64 1 from rfl, show (Value.int .i64 (refOf 0).g) = .int .i64 0 from rfl, show (Value.int .i64 (refOf 0).o) = .int .i64 0 from rfl, show (Value.int .i64 (refOf 0).n) = .int .i64 1 from rfl] at hst
      clear hLA hH2 hE0 kE bV kr
      go_wp2_with fail
      generalize (((w2.setCell ⟨w.heap.size, 0, none⟩ (.int .u64 1)).setCell ⟨w.heap.size, 1, none⟩ (.int .i64 0)).setCell ⟨w.heap.size, 2, none⟩ (.int .i64 0)).setCell ⟨w.heap.size, 3, none⟩ (.int .i64 1) = w3 at hst ⊢
      clear v0 v1 v2 v3 f0 f1 f2 f3 lr hK2
      go_loopw [10] (fun i wr => ∃ j : Nat, j + 1 ≤ n ∧ i = .int .i64 ((j : Int) + 1) ∧ ∃ S, LT w h gE (.slice (some ⟨w1.heap.size, 0, none⟩) 1 1) s S (chain (j + 1)) (refOf j) wr) (fun i _ => n - (intOf i).toNat)
      case atStart => exact ⟨0, hn1, rfl, hst⟩
      case round =>
        obtain ⟨j, hj, rfl, S, hL⟩ := hrel
        by_cases hlt : j + 1 < n
        · have d2 : ((j : Int) + 1 < (n : Int)) := by omega
          have v0 : wr.cell? ⟨w.heap.size, 0, none⟩ = some (.int .u64 ((j : Int) + 1)) := hL.2.2.2.1.cell 0
          have v1 : wr.cell? ⟨w.heap.size, 1, none⟩ = some (.int .i64 ((j : Int) / 4)) := hL.2.2.2.1.cell 1
          have v2 : wr.cell? ⟨w.heap.size, 2, none⟩ = some (.int .i64 ((j : Int) % 4)) := hL.2.2.2.1.cell 2
          have v3 : wr.cell? ⟨w.heap.size, 3, none⟩ = some (.int .i64 1) := hL.2.2.2.1.cell 3
          have lr := hL.2.2.2.1.lt
          have bA : Below wr.heap.size wr (wr.alloc (.cells #[.string ⟨#[97]⟩, .int .u64 ((j : Int) + 1), .int .i64 ((j : Int) / 4), .int .i64 ((j : Int) % 4), .int .i64 1] 66)) := (Below.refl _ _).alloc (Nat.le_refl _) _
          have kA := Blk.new wr 66 #[.string ⟨#[97]⟩, .int .u64 ((j : Int) + 1), .int .i64 ((j : Int) / 4), .int .i64 ((j : Int) % 4), .int .i64 1]
          have hKs : Ks (wr.alloc (.cells #[.string ⟨#[97]⟩, .int .u64 ((j : Int) + 1), .int .i64 ((j : Int) / 4), .int .i64 ((j : Int) % 4), .int .i64 1] 66)) (wr.alloc (.cells #[.string ⟨#[97]⟩, .int .u64 ((j : Int) + 1), .int .i64 ((j : Int) / 4), .int .i64 ((j : Int) % 4), .int .i64 1] 66)).heap.size [kidOf j] (some ⟨wr.heap.size, 0, none⟩) 1 :=
            ⟨Nat.le_refl _, by simp, (fun e => by cases e), Blk.rd (xs := cellsK [kidOf j]) kA (by simp), fun x hx => by
              rw [List.mem_singleton.1 hx]
              have hf := refOf_ok (j := j) (by omega)
              exact ⟨by simp [kidOf, maxLen, ByteArray.size], hf.1, hf.2.1, hf.2.2.1, hf.2.2.2⟩⟩
          go_wp2_with fail
          refine (write_any false [] [kidOf j] none 0 (some ⟨wr.heap.size, 0, none⟩) 1 h S (chain (j + 1)) _ (hL.1.below bA) (EsF.nil _ (fun _ => True)).es hKs).mono ?_
          rintro e w2 ⟨hK2, hw2⟩
          rw [chain_len, if_pos (by omega)] at hw2
          obtain ⟨rfl, hH2⟩ := hw2
          have hLA := hL.wrote (r' := refOf (j + 1)) bA hK2 hH2 ((Below.refl _ _).alloc (Nat.le_refl _) (.cells #[.int .u64 ((refOf (j + 1)).k : Int), .int .i64 (refOf (j + 1)).g, .int .i64 (refOf (j + 1)).o, .int .i64 (refOf (j + 1)).n] 27))
          rw [show chain (j + 1) ++ [(false, ([] : List E).map pe, [kidOf j])] = chain (j + 1 + 1) by rw [chain_succ (j + 1)]; rfl] at hLA
          have hst := hLA
          have kr := (hK2.blk (hL.2.2.2.1.below bA hL.2.2.2.1.lt) (fun e => by have := hL.2.1 _ e; omega)).alloc (.cells #[.int .u64 ((refOf (j + 1)).k : Int), .int .i64 (refOf (j + 1)).g, .int .i64 (refOf (j + 1)).o, .int .i64 (refOf (j + 1)).n] 27)
          have hEX : ∀ wq, LT w h gE (.slice (some ⟨w1.heap.size, 0, none⟩) 1 1) s (More S (wr.alloc (.cells #[.string ⟨#[97]⟩, .int .u64 ((j : Int) + 1), .int .i64 ((j : Int) / 4), .int .i64 ((j : Int) % 4), .int .i64 1] 66)) w2) (chain (j + 1 + 1)) (refOf (j + 1)) wq → ∃ S, LT w h gE (.slice (some ⟨w1.heap.size, 0, none⟩) 1 1) s S (chain (j + 1 + 1)) (refOf (j + 1)) wq := fun wq hq => ⟨_, hq⟩
          have HR := vers.lay hEX
          have hst := HR.out _ hst
          clear hLA hEX HR hH2 hK2 hKs kA bA v0 v1 v2 v3 lr hL
          generalize hr2 : refOf (j + 1) = r2 at hst kr ⊢
          have HR2 := vers.lay hr2
          clear hr2
          obtain ⟨a2, b2, c2, d2'⟩ := r2
          unfold setR at hst
          have v0 := kr.cell 0
          have v1 := kr.cell 1
          have v2 := kr.cell 2
          have v3 := kr.cell 3
          have f0 := kr.frozen 0
          have f1 := kr.frozen 1
          have f2 := kr.frozen 2
          have f3 := kr.frozen 3
          simp only at v0 v1 v2 v3
          have lr := kr.lt
          simp only [World.size_alloc] at lr
          go_wp2_with fail
          exact ⟨⟨j + 1, hlt, by go_num, by rw [HR2.out]; exact hst⟩, by simp [intOf]; omega⟩
        · have d2 : ¬ ((j : Int) + 1 < (n : Int)) := by omega
          have hB9 : Bad (chain (j + 1)) (refOf j) 1 70 := chain_bad j (by omega) 1
          have hf9 := refOf_ok (j := j) (by omega)
          have T0 := hL
          clear hst hL
          generalize refOf j = r9 at hB9 hf9 T0
          generalize chain (j + 1) = nsC at hB9 T0
          obtain ⟨a9, b9, c9, d9⟩ := r9
          have v0 := T0.2.2.2.1.cell 0
          have v1 := T0.2.2.2.1.cell 1
          have v2 := T0.2.2.2.1.cell 2
          have v3 := T0.2.2.2.1.cell 3
          have e0 := T0.2.2.2.2.1.cell 0
          have e1 := T0.2.2.2.2.1.cell 1
          simp at v0 v1 v2 v3 e0 e1
          have lr := T0.2.2.2.1.lt
          have le := T0.2.2.2.2.1.lt
          go_wp2_with fail
          have qz : ∀ u : World, (binOp .eql 27 zR zR).run Try.prog u = .ok (.bool true) u := fun u => ref_eql ⟨0, 0, 0, 0⟩ ⟨0, 0, 0, 0⟩ u
          refine (len_any h S nsC _ T0.1).mono ?_
          rintro e wq ⟨rfl, rfl⟩
          go_wp2_with fail
          refine (get_bad h S nsC ⟨a9, b9, c9, d9⟩ s 70 hB9 _ T0.1 hf9).mono ?_
          rintro e w5 ⟨rfl, hb5⟩
          have T1 := T0.next hb5
          clear v0 v1 v2 v3 e0 e1 lr le
          have v0 := T1.2.2.2.1.cell 0
          have v1 := T1.2.2.2.1.cell 1
          have v2 := T1.2.2.2.1.cell 2
          have v3 := T1.2.2.2.1.cell 3
          have e0 := T1.2.2.2.2.1.cell 0
          have e1 := T1.2.2.2.2.1.cell 1
          simp at v0 v1 v2 v3 e0 e1
          have lr := T1.2.2.2.1.lt
          have le := T1.2.2.2.2.1.lt
          go_wp2_with fail
          have T2 := T1.next ((Below.refl _ _).alloc (Nat.le_refl _) (.cells #[.string ⟨#[]⟩, .slice none 0 0] 47))
          generalize w5.alloc (.cells #[.string ⟨#[]⟩, .slice none 0 0] 47) = w6 at T2 ⊢
          refine (put_bad h S nsC ⟨a9, b9, c9, d9⟩ s _ _ _ 70 hB9 _ T2.1 hf9).mono ?_
          rintro e w7 ⟨rfl, hb7⟩
          have T3 := T2.next hb7
          clear v0 v1 v2 v3 e0 e1 lr le
          have v0 := T3.2.2.2.1.cell 0
          have v1 := T3.2.2.2.1.cell 1
          have v2 := T3.2.2.2.1.cell 2
          have v3 := T3.2.2.2.1.cell 3
          have e0 := T3.2.2.2.2.1.cell 0
          have e1 := T3.2.2.2.2.1.cell 1
          simp at v0 v1 v2 v3 e0 e1
          have lr := T3.2.2.2.1.lt
          have le := T3.2.2.2.2.1.lt
          go_wp2_with fail
          have b8 : Below w7.heap.size w7 (w7.alloc (.cells #[.int .u64 0, .int .i64 0, .int .i64 0, .int .i64 0] 27)) := (Below.refl _ _).alloc (Nat.le_refl _) _
          have T4 := T3.next b8
          have k17 := Blk.new w7 27 #[.int .u64 0, .int .i64 0, .int .i64 0, .int .i64 0]
          generalize w7.alloc (.cells #[.int .u64 0, .int .i64 0, .int .i64 0, .int .i64 0] 27) = w8 at T4 k17 b8 ⊢
          refine (delete_bad h S nsC ⟨a9, b9, c9, d9⟩ s 70 hB9 _ T4.1 hf9).mono ?_
          rintro e w9 ⟨rfl, hb9⟩
          have T5 := T4.next hb9
          have k17 := k17.below hb9 k17.lt
          clear v0 v1 v2 v3 e0 e1 lr le
          have v0 := T5.2.2.2.1.cell 0
          have v1 := T5.2.2.2.1.cell 1
          have v2 := T5.2.2.2.1.cell 2
          have v3 := T5.2.2.2.1.cell 3
          have e0 := T5.2.2.2.2.1.cell 0
          have e1 := T5.2.2.2.2.1.cell 1
          simp at v0 v1 v2 v3 e0 e1
          have lr := T5.2.2.2.1.lt
          have le := T5.2.2.2.2.1.lt
          go_wp2_with fail
          have b10 : Below w9.heap.size w9 ((w9.alloc (.cells #[.int .u64 0, .int .i64 0, .int .i64 0, .int .i64 0] 27)).alloc (.cells #[.int .i64 0, .int .i64 1, .int .i64 2] 3)) := ((Below.refl _ _).alloc (Nat.le_refl _) _).alloc (by simp) _
          have T6 := T5.next b10
          have k19 := (Blk.new w9 27 #[.int .u64 0, .int .i64 0, .int .i64 0, .int .i64 0]).alloc (.cells #[.int .i64 0, .int .i64 1, .int .i64 2] 3)
          have k17 := k17.below b10 k17.lt
          generalize (w9.alloc (.cells #[.int .u64 0, .int .i64 0, .int .i64 0, .int .i64 0] 27)).alloc (.cells #[.int .i64 0, .int .i64 1, .int .i64 2] 3) = w10 at T6 k19 k17 b10 ⊢
          refine (move_bad h S nsC ⟨a9, b9, c9, d9⟩ _ _ _ 70 hB9 _ T6.1 hf9).mono ?_
          rintro e w11 ⟨rfl, hb11⟩
          have T7 := T6.next hb11
          have k17 := k17.below hb11 k17.lt
          have k19 := k19.below hb11 k19.lt
          clear v0 v1 v2 v3 e0 e1 lr le
          have v0 := T7.2.2.2.1.cell 0
          have v1 := T7.2.2.2.1.cell 1
          have v2 := T7.2.2.2.1.cell 2
          have v3 := T7.2.2.2.1.cell 3
          have e0 := T7.2.2.2.2.1.cell 0
          have e1 := T7.2.2.2.2.1.cell 1
          simp at v0 v1 v2 v3 e0 e1
          have lr := T7.2.2.2.1.lt
          have le := T7.2.2.2.2.1.lt
          go_wp2_with fail
          have b12 : Below w11.heap.size w11 (w11.alloc (.cells #[.int .u64 0, .int .i64 0, .int .i64 0, .int .i64 0] 27)) := (Below.refl _ _).alloc (Nat.le_refl _) _
          have T8 := T7.next b12
          have k22 := Blk.new w11 27 #[.int .u64 0, .int .i64 0, .int .i64 0, .int .i64 0]
          have k17 := k17.below b12 k17.lt
          have k19 := k19.below b12 k19.lt
          generalize w11.alloc (.cells #[.int .u64 0, .int .i64 0, .int .i64 0, .int .i64 0] 27) = w12 at T8 k17 k19 k22 b12 ⊢
          refine (allT_bad h S nsC ⟨a9, b9, c9, d9⟩ 70 hB9 _ T8.1 hf9).mono ?_
          rintro e w13 ⟨rfl, hb13⟩
          have T9 := T8.next hb13
          have k17 := k17.below hb13 k17.lt
          have k19 := k19.below hb13 k19.lt
          have k22 := k22.below hb13 k22.lt
          clear v0 v1 v2 v3 e0 e1 lr le
          have a0 := k17.cell 0
          have a1 := k17.cell 1
          have a2 := k17.cell 2
          have a3 := k17.cell 3
          have o0 := k19.cell 0
          have o1 := k19.cell 1
          have o2 := k19.cell 2
          have o3 := k19.cell 3
          have p0 := k22.cell 0
          have p1 := k22.cell 1
          have p2 := k22.cell 2
          have p3 := k22.cell 3
          simp at a0 a1 a2 a3 o0 o1 o2 o3 p0 p1 p2 p3
          go_wp2_with fail
          refine (len_any h S nsC _ T9.1).mono ?_
          rintro e wq ⟨rfl, rfl⟩
          go_wp2_with fail
          go_ret
          exact ⟨rfl, T9.2.2.2.2.2⟩
    · clear hd1 hd2
      have T0 := hE0
      have hB9 := none_bad ⟨rk, rg, ro, rn⟩
      have hf9 := hr
      have v0 := T0.2.2.2.1.cell 0
      have v1 := T0.2.2.2.1.cell 1
      have v2 := T0.2.2.2.1.cell 2
      have v3 := T0.2.2.2.1.cell 3
      have e0 := T0.2.2.2.2.1.cell 0
      have e1 := T0.2.2.2.2.1.cell 1
      simp at v0 v1 v2 v3 e0 e1
      have lr := T0.2.2.2.1.lt
      have le := T0.2.2.2.2.1.lt
      go_wp2_with fail
      generalize (w1.alloc (.cells #[.int .i64 1, .string ⟨#[]⟩, .string ⟨#[]⟩] 69)).alloc (.cells #[.string s, .slice (some ⟨w1.heap.size, 0, none⟩) 1 1] 47) = wz at T0 v0 v1 v2 v3 e0 e1 lr le ⊢
      generalize w1.heap.size + 1 = gE at T0 e0 e1 le ⊢
      generalize (fun g => g = h) = S at T0
      have qz : ∀ u : World, (binOp .eql 27 zR zR).run Try.prog u = .ok (.bool true) u := fun u => ref_eql ⟨0, 0, 0, 0⟩ ⟨0, 0, 0, 0⟩ u
      refine (len_any h S [] _ T0.1).mono ?_
      rintro e wq ⟨rfl, rfl⟩
      go_wp2_with fail
      refine (get_bad h S [] ⟨rk, rg, ro, rn⟩ s 71 hB9 _ T0.1 hf9).mono ?_
      rintro e w5 ⟨rfl, hb5⟩
      have T1 := T0.next hb5
      clear v0 v1 v2 v3 e0 e1 lr le
      have v0 := T1.2.2.2.1.cell 0
      have v1 := T1.2.2.2.1.cell 1
      have v2 := T1.2.2.2.1.cell 2
      have v3 := T1.2.2.2.1.cell 3
      have e0 := T1.2.2.2.2.1.cell 0
      have e1 := T1.2.2.2.2.1.cell 1
      simp at v0 v1 v2 v3 e0 e1
      have lr := T1.2.2.2.1.lt
      have le := T1.2.2.2.2.1.lt
      go_wp2_with fail
      have T2 := T1.next ((Below.refl _ _).alloc (Nat.le_refl _) (.cells #[.string ⟨#[]⟩, .slice none 0 0] 47))
      generalize w5.alloc (.cells #[.string ⟨#[]⟩, .slice none 0 0] 47) = w6 at T2 ⊢
      refine (put_bad h S [] ⟨rk, rg, ro, rn⟩ s _ _ _ 71 hB9 _ T2.1 hf9).mono ?_
      rintro e w7 ⟨rfl, hb7⟩
      have T3 := T2.next hb7
      clear v0 v1 v2 v3 e0 e1 lr le
      have v0 := T3.2.2.2.1.cell 0
      have v1 := T3.2.2.2.1.cell 1
      have v2 := T3.2.2.2.1.cell 2
      have v3 := T3.2.2.2.1.cell 3
      have e0 := T3.2.2.2.2.1.cell 0
      have e1 := T3.2.2.2.2.1.cell 1
      simp at v0 v1 v2 v3 e0 e1
      have lr := T3.2.2.2.1.lt
      have le := T3.2.2.2.2.1.lt
      go_wp2_with fail
      have b8 : Below w7.heap.size w7 (w7.alloc (.cells #[.int .u64 0, .int .i64 0, .int .i64 0, .int .i64 0] 27)) := (Below.refl _ _).alloc (Nat.le_refl _) _
      have T4 := T3.next b8
      have k17 := Blk.new w7 27 #[.int .u64 0, .int .i64 0, .int .i64 0, .int .i64 0]
      generalize w7.alloc (.cells #[.int .u64 0, .int .i64 0, .int .i64 0, .int .i64 0] 27) = w8 at T4 k17 b8 ⊢
      refine (delete_bad h S [] ⟨rk, rg, ro, rn⟩ s 71 hB9 _ T4.1 hf9).mono ?_
      rintro e w9 ⟨rfl, hb9⟩
      have T5 := T4.next hb9
      have k17 := k17.below hb9 k17.lt
      clear v0 v1 v2 v3 e0 e1 lr le
      have v0 := T5.2.2.2.1.cell 0
      have v1 := T5.2.2.2.1.cell 1
      have v2 := T5.2.2.2.1.cell 2
      have v3 := T5.2.2.2.1.cell 3
      have e0 := T5.2.2.2.2.1.cell 0
      have e1 := T5.2.2.2.2.1.cell 1
      simp at v0 v1 v2 v3 e0 e1
      have lr := T5.2.2.2.1.lt
      have le := T5.2.2.2.2.1.lt
      go_wp2_with fail
      have b10 : Below w9.heap.size w9 ((w9.alloc (.cells #[.int .u64 0, .int .i64 0, .int .i64 0, .int .i64 0] 27)).alloc (.cells #[.int .i64 0, .int .i64 1, .int .i64 2] 3)) := ((Below.refl _ _).alloc (Nat.le_refl _) _).alloc (by simp) _
      have T6 := T5.next b10
      have k19 := (Blk.new w9 27 #[.int .u64 0, .int .i64 0, .int .i64 0, .int .i64 0]).alloc (.cells #[.int .i64 0, .int .i64 1, .int .i64 2] 3)
      have k17 := k17.below b10 k17.lt
      generalize (w9.alloc (.cells #[.int .u64 0, .int .i64 0, .int .i64 0, .int .i64 0] 27)).alloc (.cells #[.int .i64 0, .int .i64 1, .int .i64 2] 3) = w10 at T6 k19 k17 b10 ⊢
      refine (move_bad h S [] ⟨rk, rg, ro, rn⟩ _ _ _ 71 hB9 _ T6.1 hf9).mono ?_
      rintro e w11 ⟨rfl, hb11⟩
      have T7 := T6.next hb11
      have k17 := k17.below hb11 k17.lt
      have k19 := k19.below hb11 k19.lt
      clear v0 v1 v2 v3 e0 e1 lr le
      have v0 := T7.2.2.2.1.cell 0
      have v1 := T7.2.2.2.1.cell 1
      have v2 := T7.2.2.2.1.cell 2
      have v3 := T7.2.2.2.1.cell 3
      have e0 := T7.2.2.2.2.1.cell 0
      have e1 := T7.2.2.2.2.1.cell 1
      simp at v0 v1 v2 v3 e0 e1
      have lr := T7.2.2.2.1.lt
      have le := T7.2.2.2.2.1.lt
      go_wp2_with fail
      have b12 : Below w11.heap.size w11 (w11.alloc (.cells #[.int .u64 0, .int .i64 0, .int .i64 0, .int .i64 0] 27)) := (Below.refl _ _).alloc (Nat.le_refl _) _
      have T8 := T7.next b12
      have k22 := Blk.new w11 27 #[.int .u64 0, .int .i64 0, .int .i64 0, .int .i64 0]
      have k17 := k17.below b12 k17.lt
      have k19 := k19.below b12 k19.lt
      generalize w11.alloc (.cells #[.int .u64 0, .int .i64 0, .int .i64 0, .int .i64 0] 27) = w12 at T8 k17 k19 k22 b12 ⊢
      refine (allT_bad h S [] ⟨rk, rg, ro, rn⟩ 71 hB9 _ T8.1 hf9).mono ?_
      rintro e w13 ⟨rfl, hb13⟩
      have T9 := T8.next hb13
      have k17 := k17.below hb13 k17.lt
      have k19 := k19.below hb13 k19.lt
      have k22 := k22.below hb13 k22.lt
      clear v0 v1 v2 v3 e0 e1 lr le
      have a0 := k17.cell 0
      have a1 := k17.cell 1
      have a2 := k17.cell 2
      have a3 := k17.cell 3
      have o0 := k19.cell 0
      have o1 := k19.cell 1
      have o2 := k19.cell 2
      have o3 := k19.cell 3
      have p0 := k22.cell 0
      have p1 := k22.cell 1
      have p2 := k22.cell 2
      have p3 := k22.cell 3
      simp at a0 a1 a2 a3 o0 o1 o2 o3 p0 p1 p2 p3
      go_wp2_with fail
      refine (len_any h S [] _ T9.1).mono ?_
      rintro e wq ⟨rfl, rfl⟩
      go_wp2_with fail
      go_ret
      exact ⟨rfl, T9.2.2.2.2.2⟩
  · clear hd1 hd2
    have T0 := hE0
    have hB9 := none_bad ⟨rk, rg, ro, rn⟩
    have hf9 := hr
    have v0 := T0.2.2.2.1.cell 0
    have v1 := T0.2.2.2.1.cell 1
    have v2 := T0.2.2.2.1.cell 2
    have v3 := T0.2.2.2.1.cell 3
    have e0 := T0.2.2.2.2.1.cell 0
    have e1 := T0.2.2.2.2.1.cell 1
    simp at v0 v1 v2 v3 e0 e1
    have lr := T0.2.2.2.1.lt
    have le := T0.2.2.2.2.1.lt
    go_wp2_with fail
    generalize (w1.alloc (.cells #[.int .i64 1, .string ⟨#[]⟩, .string ⟨#[]⟩] 69)).alloc (.cells #[.string s, .slice (some ⟨w1.heap.size, 0, none⟩) 1 1] 47) = wz at T0 v0 v1 v2 v3 e0 e1 lr le ⊢
    generalize w1.heap.size + 1 = gE at T0 e0 e1 le ⊢
    generalize (fun g => g = h) = S at T0
    have qz : ∀ u : World, (binOp .eql 27 zR zR).run Try.prog u = .ok (.bool true) u := fun u => ref_eql ⟨0, 0, 0, 0⟩ ⟨0, 0, 0, 0⟩ u
    refine (len_any h S [] _ T0.1).mono ?_
    rintro e wq ⟨rfl, rfl⟩
    go_wp2_with fail
    refine (get_bad h S [] ⟨rk, rg, ro, rn⟩ s 71 hB9 _ T0.1 hf9).mono ?_
    rintro e w5 ⟨rfl, hb5⟩
    have T1 := T0.next hb5
    clear v0 v1 v2 v3 e0 e1 lr le
    have v0 := T1.2.2.2.1.cell 0
    have v1 := T1.2.2.2.1.cell 1
    have v2 := T1.2.2.2.1.cell 2
    have v3 := T1.2.2.2.1.cell 3
    have e0 := T1.2.2.2.2.1.cell 0
    have e1 := T1.2.2.2.2.1.cell 1
    simp at v0 v1 v2 v3 e0 e1
    have lr := T1.2.2.2.1.lt
    have le := T1.2.2.2.2.1.lt
    go_wp2_with fail
    have T2 := T1.next ((Below.refl _ _).alloc (Nat.le_refl _) (.cells #[.string ⟨#[]⟩, .slice none 0 0] 47))
    generalize w5.alloc (.cells #[.string ⟨#[]⟩, .slice none 0 0] 47) = w6 at T2 ⊢
    refine (put_bad h S [] ⟨rk, rg, ro, rn⟩ s _ _ _ 71 hB9 _ T2.1 hf9).mono ?_
    rintro e w7 ⟨rfl, hb7⟩
    have T3 := T2.next hb7
    clear v0 v1 v2 v3 e0 e1 lr le
    have v0 := T3.2.2.2.1.cell 0
    have v1 := T3.2.2.2.1.cell 1
    have v2 := T3.2.2.2.1.cell 2
    have v3 := T3.2.2.2.1.cell 3
    have e0 := T3.2.2.2.2.1.cell 0
    have e1 := T3.2.2.2.2.1.cell 1
    simp at v0 v1 v2 v3 e0 e1
    have lr := T3.2.2.2.1.lt
    have le := T3.2.2.2.2.1.lt
    go_wp2_with fail
    have b8 : Below w7.heap.size w7 (w7.alloc (.cells #[.int .u64 0, .int .i64 0, .int .i64 0, .int .i64 0] 27)) := (Below.refl _ _).alloc (Nat.le_refl _) _
    have T4 := T3.next b8
    have k17 := Blk.new w7 27 #[.int .u64 0, .int .i64 0, .int .i64 0, .int .i64 0]
    generalize w7.alloc (.cells #[.int .u64 0, .int .i64 0, .int .i64 0, .int .i64 0] 27) = w8 at T4 k17 b8 ⊢
    refine (delete_bad h S [] ⟨rk, rg, ro, rn⟩ s 71 hB9 _ T4.1 hf9).mono ?_
    rintro e w9 ⟨rfl, hb9⟩
    have T5 := T4.next hb9
    have k17 := k17.below hb9 k17.lt
    clear v0 v1 v2 v3 e0 e1 lr le
    have v0 := T5.2.2.2.1.cell 0
    have v1 := T5.2.2.2.1.cell 1
    have v2 := T5.2.2.2.1.cell 2
    have v3 := T5.2.2.2.1.cell 3
    have e0 := T5.2.2.2.2.1.cell 0
    have e1 := T5.2.2.2.2.1.cell 1
    simp at v0 v1 v2 v3 e0 e1
    have lr := T5.2.2.2.1.lt
    have le := T5.2.2.2.2.1.lt
    go_wp2_with fail
    have b10 : Below w9.heap.size w9 ((w9.alloc (.cells #[.int .u64 0, .int .i64 0, .int .i64 0, .int .i64 0] 27)).alloc (.cells #[.int .i64 0, .int .i64 1, .int .i64 2] 3)) := ((Below.refl _ _).alloc (Nat.le_refl _) _).alloc (by simp) _
    have T6 := T5.next b10
    have k19 := (Blk.new w9 27 #[.int .u64 0, .int .i64 0, .int .i64 0, .int .i64 0]).alloc (.cells #[.int .i64 0, .int .i64 1, .int .i64 2] 3)
    have k17 := k17.below b10 k17.lt
    generalize (w9.alloc (.cells #[.int .u64 0, .int .i64 0, .int .i64 0, .int .i64 0] 27)).alloc (.cells #[.int .i64 0, .int .i64 1, .int .i64 2] 3) = w10 at T6 k19 k17 b10 ⊢
    refine (move_bad h S [] ⟨rk, rg, ro, rn⟩ _ _ _ 71 hB9 _ T6.1 hf9).mono ?_
    rintro e w11 ⟨rfl, hb11⟩
    have T7 := T6.next hb11
    have k17 := k17.below hb11 k17.lt
    have k19 := k19.below hb11 k19.lt
    clear v0 v1 v2 v3 e0 e1 lr le
    have v0 := T7.2.2.2.1.cell 0
    have v1 := T7.2.2.2.1.cell 1
    have v2 := T7.2.2.2.1.cell 2
    have v3 := T7.2.2.2.1.cell 3
    have e0 := T7.2.2.2.2.1.cell 0
    have e1 := T7.2.2.2.2.1.cell 1
    simp at v0 v1 v2 v3 e0 e1
    have lr := T7.2.2.2.1.lt
    have le := T7.2.2.2.2.1.lt
    go_wp2_with fail
    have b12 : Below w11.heap.size w11 (w11.alloc (.cells #[.int .u64 0, .int .i64 0, .int .i64 0, .int .i64 0] 27)) := (Below.refl _ _).alloc (Nat.le_refl _) _
    have T8 := T7.next b12
    have k22 := Blk.new w11 27 #[.int .u64 0, .int .i64 0, .int .i64 0, .int .i64 0]
    have k17 := k17.below b12 k17.lt
    have k19 := k19.below b12 k19.lt
    generalize w11.alloc (.cells #[.int .u64 0, .int .i64 0, .int .i64 0, .int .i64 0] 27) = w12 at T8 k17 k19 k22 b12 ⊢
    refine (allT_bad h S [] ⟨rk, rg, ro, rn⟩ 71 hB9 _ T8.1 hf9).mono ?_
    rintro e w13 ⟨rfl, hb13⟩
    have T9 := T8.next hb13
    have k17 := k17.below hb13 k17.lt
    have k19 := k19.below hb13 k19.lt
    have k22 := k22.below hb13 k22.lt
    clear v0 v1 v2 v3 e0 e1 lr le
    have a0 := k17.cell 0
    have a1 := k17.cell 1
    have a2 := k17.cell 2
    have a3 := k17.cell 3
    have o0 := k19.cell 0
    have o1 := k19.cell 1
    have o2 := k19.cell 2
    have o3 := k19.cell 3
    have p0 := k22.cell 0
    have p1 := k22.cell 1
    have p2 := k22.cell 2
    have p3 := k22.cell 3
    simp at a0 a1 a2 a3 o0 o1 o2 o3 p0 p1 p2 p3
    go_wp2_with fail
    refine (len_any h S [] _ T9.1).mono ?_
    rintro e wq ⟨rfl, rfl⟩
    go_wp2_with fail
    go_ret
    exact ⟨rfl, T9.2.2.2.2.2⟩

end Go.Proofs.Ytboghhiiodlmbaa.trees
