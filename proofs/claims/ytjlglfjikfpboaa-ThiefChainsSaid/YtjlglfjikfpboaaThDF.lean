/- What a piece is: Decode, with what it leaves by blocks; thief's read, the document's Piece. -/
import Derived.Test.YtjlglfjikfpboaaThAC
import Derived.Test.YtjlglfjikfpboaaTermF
import Derived.Test.YtjlglfjikfpboaaTermB
import Derived.Test.YtjlglfjikfpboaaTermE
import Derived.Test.YtjlglfjikfpboaaAtomsLaw
import Derived.Test.YtjlglfjikfpboaaMixCE


namespace Go.Proofs.Ytjlglfjikfpboaa.thiefs
set_option linter.unusedVariables false
set_option linter.unusedSimpArgs false
open Go.RowKit Go.Proofs.Ytjlglfjikfpboaa.base Go.Proofs.Ytjlglfjikfpboaa.tm Go.Proofs.Ytjlglfjikfpboaa.lies Go.Proofs.Ytjlglfjikfpboaa.rights Go.Proofs.Ytjlglfjikfpboaa.copies Go.Proofs.Ytjlglfjikfpboaa.built Go.Proofs.Ytjlglfjikfpboaa.reads Go.Proofs.Ytjlglfjikfpboaa.refReads

/-- new memory -/
abbrev New (W w' : World) : Nat → Prop := fun g => W.heap.size ≤ g ∧ g < w'.heap.size
/-- what Decode leaves -/
def DPostF (W : World) (r : Dec) (e : Ending) (w' : World) : Prop :=
  Below W.heap.size W w' ∧ match r with
  | .bad err => err ≠ 0 ∧ e = .returned (.tuple #[.agg #[.int .i64 0, .int .u64 0, .string ⟨#[]⟩, .slice none 0 0], .int .i64 err])
  | .ok t => ∃ (A : Option Addr) (c : Nat), e = .returned (.tuple #[.agg #[.int .i64 t.k, .int .u64 t.n, .string t.s, .slice A t.l.length c], .int .i64 0]) ∧ TF w' (New W w') t (.slice A t.l.length c)
theorem tf_four {w w2 : World} {lo g : Nat} {t : T} {v : Value} (hH : Held w2 lo w2.heap.size t.l v) (hF : Fits t) (hlo : w.heap.size ≤ lo) (hg : g < lo) (a b c d : Value) (q : Obj) :
    TF ((four w2 g 0 a b c d).alloc q) (New w ((four w2 g 0 a b c d).alloc q)) t v := by
  have hz : ((four w2 g 0 a b c d).alloc q).heap.size = w2.heap.size + 1 := by rw [World.size_alloc, four_size]
  refine TF.mono (fun k hk => ⟨by omega, by rw [hz]; omega⟩) _ _ (TF.of_held (lo := lo) (hi := w2.heap.size) (hH.move (Nat.le_refl _) (Nat.le_refl _) fun p p1 p2 => ?_) hF)
  rw [World.cell?_alloc_lt _ _ _ (by rw [four_size]; exact p2), four_cell _ _ _ _ _ _ _ _ (by omega)]
theorem tf_four2 {w w2 : World} {F : Nat → Prop} {g : Nat} {t : T} {v : Value} (hT : TF w2 F t v) (hF : ∀ k, F k → w.heap.size ≤ k ∧ k < w2.heap.size ∧ k ≠ g) (a b c d : Value) (q : Obj) :
    TF ((four w2 g 0 a b c d).alloc q) (New w ((four w2 g 0 a b c d).alloc q)) t v := by
  have hz : ((four w2 g 0 a b c d).alloc q).heap.size = w2.heap.size + 1 := by rw [World.size_alloc, four_size]
  refine TF.mono (fun k hk => ⟨(hF k hk).1, by have := hF k hk; rw [hz]; omega⟩) _ _ (TF.agree (fun k hk => ?_) _ _ hT)
  rw [Below.heap_alloc _ _ k (by rw [four_size]; exact (hF k hk).2.1)]
  unfold four
  have h := (hF k hk).2.2
  rw [Below.heap_setCell _ _ _ k h, Below.heap_setCell _ _ _ k h, Below.heap_setCell _ _ _ k h, Below.heap_setCell _ _ _ k h]
theorem dec_tf {w w2 : World} {o o' : Obj} (hG : ((w.alloc o).alloc o').grownBy w2 (some (w.heap.size + 1))) {t : T} {v : Value} (hH : Held w2 ((w.alloc o).alloc o').heap.size w2.heap.size t.l v) (hF : Fits t) (a b c d : Value) (q : Obj) :
    TF ((four w2 w.heap.size 0 a b c d).alloc q) (New w ((four w2 w.heap.size 0 a b c d).alloc q)) t v := tf_four hH hF (by simp; omega) (by simp; omega) _ _ _ _ _
theorem dec1_tf {w w2 : World} {o : Obj} {t : T} {v : Value} (hH : Held w2 (w.alloc o).heap.size w2.heap.size t.l v) (hF : Fits t) (a b c d : Value) (q : Obj) :
    TF ((four w2 w.heap.size 0 a b c d).alloc q) (New w ((four w2 w.heap.size 0 a b c d).alloc q)) t v := tf_four hH hF (by simp) (by simp) _ _ _ _ _

set_option maxRecDepth 100000 in
set_option maxHeartbeats 400000 in
theorem decodeF_any (s : ByteArray) (w : World) (hs : s.size ≤ maxLen) :
    Calls Try.prog 124 #[.string s] w (DPostF w (tm.decode s.data.toList)) := by
  have hR : Rdr ((w.alloc (.cells #[.int .i64 0, .int .u64 0, .string ⟨#[]⟩, .slice none 0 0] 39)).alloc (.cells #[.string s, .int .i64 0] 210)) (w.heap.size + 1) s 0 := by
    have := Blk.new (w.alloc (.cells #[.int .i64 0, .int .u64 0, .string ⟨#[]⟩, .slice none 0 0] 39)) 210 #[.string s, .int .i64 0]
    simp only [World.size_alloc] at this
    exact this
  have hres := (Blk.new w 39 #[.int .i64 0, .int .u64 0, .string ⟨#[]⟩, .slice none 0 0]).alloc (.cells #[.string s, .int .i64 0] 210)
  have hcall := term_all 12 (w.heap.size + 1) 0 s 0 _ hR (by omega) hs (by omega) (Nat.le_refl _)
  cases hq : readT 12 s.data.toList 0 with
  | bad err =>
    have HD := lay (show tm.decode s.data.toList = .bad err by unfold tm.decode; rw [hq])
    rw [hq] at hcall
    rw [HD.out]
    clear hq
    go_enter Try.func124, Try.ntmps124
    go_wp2_with fail
    refine hcall.mono ?_
    rintro e w2 ⟨hG, hne, s2, b2, k2, n2, z2, A2, m2, c2, hR2, rfl⟩
    have d1 : (err == 0) = false := by simpa using hne
    have d2 : (err != 0) = true := by simpa using hne
    have HN := lay hne
    clear hne
    have hB0 : Blk w2 w.heap.size 39 #[.int .i64 0, .int .u64 0, .string ⟨#[]⟩, .slice none 0 0] := (hG.block _ hres.lt (by simp)).trans hres
    have q0 := hB0.cell 0
    have q1 := hB0.cell 1
    have q2 := hB0.cell 2
    have q3 := hB0.cell 3
    simp at q0 q1 q2 q3
    have fq0 := hB0.frozen 0
    have fq1 := hB0.frozen 1
    have fq2 := hB0.frozen 2
    have fq3 := hB0.frozen 3
    have v0 := hR2.cell 0
    simp at v0
    have hz2 : w.heap.size + 1 < w2.heap.size := by have := hG.size; simp at this; omega
    have hz3 : w.heap.size < w2.heap.size := by omega
    go_wp2_with fail
    refine bodyPost_ret (v := .tuple #[.agg #[.int .i64 0, .int .u64 0, .string ⟨#[]⟩, .slice none 0 0], .int .i64 err]) (by simp [results, Try.results124, go_sem, q0, q1, q2, q3, hz2, hz3]) rfl ?_
    exact ⟨dec_below hG _ _ _ _ _, HN.out, rfl⟩
  | ok t r b =>
    rw [hq] at hcall
    by_cases hr : r = []
    · have HD := lay (show tm.decode s.data.toList = .ok t by unfold tm.decode; rw [hq]; exact if_pos hr)
      rw [HD.out]
      clear hq
      go_enter Try.func124, Try.ntmps124
      go_wp2_with fail
      refine hcall.mono ?_
      rintro e w2 ⟨hG, s2, A2, c2, hR2, hr2, hs2, hbb, hb4, rfl, hH, hF⟩
      have e0 : s2.toList = [] := by rw [tm.toList_eq, hr2, hr]
      clear hr hr2
      have hB0 : Blk w2 w.heap.size 39 #[.int .i64 0, .int .u64 0, .string ⟨#[]⟩, .slice none 0 0] := (hG.block _ hres.lt (by simp)).trans hres
      have q0 := hB0.cell 0
      have q1 := hB0.cell 1
      have q2 := hB0.cell 2
      have q3 := hB0.cell 3
      simp at q0 q1 q2 q3
      have fq0 := hB0.frozen 0
      have fq1 := hB0.frozen 1
      have fq2 := hB0.frozen 2
      have fq3 := hB0.frozen 3
      have v0 := hR2.cell 0
      simp at v0
      have hz2 : w.heap.size + 1 < w2.heap.size := by have := hG.size; simp at this; omega
      have hz3 : w.heap.size < w2.heap.size := by omega
      go_wp2_with fail
      refine bodyPost_ret (v := .tuple #[.agg #[.int .i64 t.k, .int .u64 t.n, .string t.s, .slice A2 t.l.length c2], .int .i64 0]) (by simp [results, Try.results124, go_sem, q0, q1, q2, q3, hz2, hz3]) rfl ?_
      exact ⟨dec_below hG _ _ _ _ _, A2, c2, rfl, dec_tf hG hH hF _ _ _ _ _⟩
    · have HD := lay (show tm.decode s.data.toList = .bad 24 by unfold tm.decode; rw [hq]; exact if_neg hr)
      rw [HD.out]
      clear hq
      go_enter Try.func124, Try.ntmps124
      go_wp2_with fail
      refine hcall.mono ?_
      rintro e w2 ⟨hG, s2, A2, c2, hR2, hr2, hs2, hbb, hb4, rfl, hH, hF⟩
      have e0 : s2.toList.isEmpty = false := by rw [tm.toList_eq, hr2]; simpa using hr
      clear hr hr2
      have hB0 : Blk w2 w.heap.size 39 #[.int .i64 0, .int .u64 0, .string ⟨#[]⟩, .slice none 0 0] := (hG.block _ hres.lt (by simp)).trans hres
      have q0 := hB0.cell 0
      have q1 := hB0.cell 1
      have q2 := hB0.cell 2
      have q3 := hB0.cell 3
      simp at q0 q1 q2 q3
      have fq0 := hB0.frozen 0
      have fq1 := hB0.frozen 1
      have fq2 := hB0.frozen 2
      have fq3 := hB0.frozen 3
      have v0 := hR2.cell 0
      simp at v0
      have hz2 : w.heap.size + 1 < w2.heap.size := by have := hG.size; simp at this; omega
      have hz3 : w.heap.size < w2.heap.size := by omega
      go_wp2_with fail
      refine bodyPost_ret (v := .tuple #[.agg #[.int .i64 0, .int .u64 0, .string ⟨#[]⟩, .slice none 0 0], .int .i64 24]) (by simp [results, Try.results124, go_sem, q0, q1, q2, q3, hz2, hz3]) rfl ?_
      exact ⟨dec_below hG _ _ _ _ _, by decide, rfl⟩

set_option maxRecDepth 100000 in
set_option maxHeartbeats 400000 in
theorem refDecodeF_any (s : ByteArray) (w : World) (hs : s.size ≤ maxLen) :
    Calls Try.prog 29 #[.string s] w (DPostF w (tm.decode s.data.toList)) := by
  have hcall := fun w => read_all 12 s 0 0 0 0 0 w hs (Nat.zero_le _) (by omega) rfl rfl (by omega) (Nat.le_refl _)
  simp only [List.drop_zero] at hcall
  have hres := Blk.new w 39 #[.int .i64 0, .int .u64 0, .string ⟨#[]⟩, .slice none 0 0]
  cases hq : readT 12 s.data.toList 0 with
  | bad err =>
    have HD := lay (show tm.decode s.data.toList = .bad err by unfold tm.decode; rw [hq])
    rw [hq] at hcall
    rw [HD.out]
    clear hq
    go_enter Try.func29, Try.ntmps29
    go_wp2_with fail
    refine (hcall _).mono ?_
    rintro e w2 ⟨hG, hne, rfl⟩
    have d2 : (err != 0) = true := by simpa using hne
    have HN := lay hne
    clear hne
    have hgw : w.heap.size < w2.heap.size := by have := hG.size; simp at this; omega
    have hB0 := hres.below hG (by simp)
    have q0 := hB0.cell 0
    have q1 := hB0.cell 1
    have q2 := hB0.cell 2
    have q3 := hB0.cell 3
    simp at q0 q1 q2 q3
    have fq0 := hB0.frozen 0
    have fq1 := hB0.frozen 1
    have fq2 := hB0.frozen 2
    have fq3 := hB0.frozen 3
    go_wp2_with fail
    go_region
    go_wp2_with fail
    refine bodyPost_ret (v := .tuple #[.agg #[.int .i64 0, .int .u64 0, .string ⟨#[]⟩, .slice none 0 0], .int .i64 err]) (by simp [results, Try.results29, go_sem, q0, q1, q2, q3, hgw]) rfl ?_
    exact ⟨(dec1_below hG _ _ _ _ _).drew, HN.out, rfl⟩
  | ok t r b =>
    rw [hq] at hcall
    by_cases hr : r = []
    · have HD := lay (show tm.decode s.data.toList = .ok t by unfold tm.decode; rw [hq]; exact if_pos hr)
      rw [HD.out]
      clear hq
      go_enter Try.func29, Try.ntmps29
      go_wp2_with fail
      refine (hcall _).mono ?_
      rintro e w2 ⟨hG, A2, c2, a2, rfl, ha2, hr2, hbb, hb4, hH, hF⟩
      have e0 : ¬ (a2 : Int) < (s.size : Int) := by
        have := congrArg List.length hr2
        rw [hr] at this
        simp at this
        omega
      clear hr hr2
      have hgw : w.heap.size < w2.heap.size := by have := hG.size; simp at this; omega
      have hB0 := hres.below hG (by simp)
      have q0 := hB0.cell 0
      have q1 := hB0.cell 1
      have q2 := hB0.cell 2
      have q3 := hB0.cell 3
      simp at q0 q1 q2 q3
      have fq0 := hB0.frozen 0
      have fq1 := hB0.frozen 1
      have fq2 := hB0.frozen 2
      have fq3 := hB0.frozen 3
      go_wp2_with fail
      refine bodyPost_ret (v := .tuple #[.agg #[.int .i64 t.k, .int .u64 t.n, .string t.s, .slice A2 t.l.length c2], .int .i64 0]) (by simp [results, Try.results29, go_sem, q0, q1, q2, q3, hgw]) rfl ?_
      exact ⟨dec1_below hG _ _ _ _ _, A2, c2, rfl, dec1_tf hH hF _ _ _ _ _⟩
    · have HD := lay (show tm.decode s.data.toList = .bad 24 by unfold tm.decode; rw [hq]; exact if_neg hr)
      rw [HD.out]
      clear hq
      go_enter Try.func29, Try.ntmps29
      go_wp2_with fail
      refine (hcall _).mono ?_
      rintro e w2 ⟨hG, A2, c2, a2, rfl, ha2, hr2, hbb, hb4, hH, hF⟩
      have e0 : (a2 : Int) < (s.size : Int) := by
        by_cases h : a2 < s.size
        · omega
        · refine absurd ?_ hr
          rw [← hr2]
          exact List.drop_of_length_le (by simp; omega)
      clear hr hr2
      have hgw : w.heap.size < w2.heap.size := by have := hG.size; simp at this; omega
      have hB0 := hres.below hG (by simp)
      have q0 := hB0.cell 0
      have q1 := hB0.cell 1
      have q2 := hB0.cell 2
      have q3 := hB0.cell 3
      simp at q0 q1 q2 q3
      have fq0 := hB0.frozen 0
      have fq1 := hB0.frozen 1
      have fq2 := hB0.frozen 2
      have fq3 := hB0.frozen 3
      go_wp2_with fail
      refine bodyPost_ret (v := .tuple #[.agg #[.int .i64 0, .int .u64 0, .string ⟨#[]⟩, .slice none 0 0], .int .i64 24]) (by simp [results, Try.results29, go_sem, q0, q1, q2, q3, hgw]) rfl ?_
      exact ⟨dec1_below hG _ _ _ _ _, by decide, rfl⟩

/-- what a piece is -/
def pieceT (s : ByteArray) : T := match tm.decode (bn s) with
  | .ok t => t
  | .bad _ => .mk 2 0 s []
/-- what a call that answers a term made anew leaves -/
def PcPost (W : World) (t : T) (e : Ending) (w' : World) : Prop :=
  Below W.heap.size W w' ∧ ∃ (A : Option Addr) (c : Nat), e = .returned (.agg #[.int .i64 t.k, .int .u64 t.n, .string t.s, .slice A t.l.length c]) ∧ TF w' (New W w') t (.slice A t.l.length c)
theorem four_agree (w : World) (g : Nat) (a b c d : Value) : Agree w (four w g 0 a b c d) (fun k => k ≠ g) := fun k hk => by
  unfold four
  rw [Below.heap_setCell _ _ _ k hk, Below.heap_setCell _ _ _ k hk, Below.heap_setCell _ _ _ k hk, Below.heap_setCell _ _ _ k hk]

set_option maxRecDepth 100000 in
set_option maxHeartbeats 1000000 in
theorem read_any (s : ByteArray) (w : World) (hs : s.size ≤ maxLen) :
    Calls Try.prog 88 #[.string s] w (PcPost w (pieceT s)) := by
  have hres := Blk.new w 39 #[.int .i64 0, .int .u64 0, .string ⟨#[]⟩, .slice none 0 0]
  have hcall := decodeF_any s (w.alloc (.cells #[.int .i64 0, .int .u64 0, .string ⟨#[]⟩, .slice none 0 0] 39)) hs
  unfold pieceT
  cases hq : tm.decode (bn s) with
  | bad err =>
    rw [show tm.decode s.data.toList = .bad err from hq] at hcall
    clear hq
    go_enter Try.func88, Try.ntmps88
    go_wp2_with fail
    refine hcall.mono ?_
    rintro e w2 ⟨hb, hne, rfl⟩
    have d2 : (err != 0) = true := by simpa using hne
    clear hne
    have hz := hb.size
    simp only [World.size_alloc] at hb hz
    have hB0 := hres.below hb (by omega)
    go_wp2_with (go_at_call 32; refine (makes.atom_any s _).mono ?_; rintro e w3 ⟨rfl, hb3⟩; simp only [World.size_alloc] at hb3; have hz3 := hb3.size; simp only [World.size_alloc] at hz3; have hA := hB0.alloc (.cells #[.int .i64 0, .int .u64 0, .string ⟨#[]⟩, .slice none 0 0] 39); have hB3 := hA.below hb3 (by omega); have q0 := hB3.cell 0; have q1 := hB3.cell 1; have q2 := hB3.cell 2; have q3 := hB3.cell 3; simp at q0 q1 q2 q3; have f0 := hB3.frozen 0; have f1 := hB3.frozen 1; have f2 := hB3.frozen 2; have f3 := hB3.frozen 3; have hl3 : w.heap.size < w3.heap.size := by omega)
    refine bodyPost_ret (v := .agg #[.int .i64 2, .int .u64 0, .string s, .slice none 0 0]) (by simp [results, Try.results88, go_sem, q0, q1, q2, q3, hl3]) rfl ?_
    refine ⟨?_, none, 0, rfl, TF.z _ _ ⟨by omega, by omega⟩ ⟨by omega, by omega⟩ hs⟩
    refine four_below ?_ (Nat.le_refl _) _ _ _ _
    exact ((Below.refl _ _).alloc (Nat.le_refl _) _).trans ((hb.mono (by omega)).trans (((Below.refl _ _).alloc (by omega) _).trans (hb3.mono (by omega))))
  | ok t =>
    rw [show tm.decode s.data.toList = .ok t from hq] at hcall
    clear hq
    go_enter Try.func88, Try.ntmps88
    go_wp2_with fail
    refine hcall.mono ?_
    rintro e w2 ⟨hb, A, c, rfl, hT⟩
    have hz := hb.size
    simp only [World.size_alloc] at hb hz
    have hB0 := hres.below hb (by omega)
    have q0 := hB0.cell 0
    have q1 := hB0.cell 1
    have q2 := hB0.cell 2
    have q3 := hB0.cell 3
    simp at q0 q1 q2 q3
    have f0 := hB0.frozen 0
    have f1 := hB0.frozen 1
    have f2 := hB0.frozen 2
    have f3 := hB0.frozen 3
    have hl3 : w.heap.size < w2.heap.size := by omega
    go_wp2_with fail
    refine bodyPost_ret (v := .agg #[.int .i64 t.k, .int .u64 t.n, .string t.s, .slice A t.l.length c]) (by simp [results, Try.results88, go_sem, q0, q1, q2, q3, hl3]) rfl ?_
    refine ⟨?_, A, c, rfl, ?_⟩
    · exact (four_below (((Below.refl _ _).alloc (Nat.le_refl _) _).trans (hb.mono (by omega))) (Nat.le_refl _) _ _ _ _).alloc (by rw [four_size]; omega) _
    · exact tf_four2 hT (fun k hk => by have h1 := hk.1; have h2 := hk.2; simp only [World.size_alloc] at h1; omega) _ _ _ _ _

set_option maxRecDepth 100000 in
set_option maxHeartbeats 1000000 in
theorem refPiece_any (s : ByteArray) (w : World) (hs : s.size ≤ maxLen) :
    Calls Try.prog 50 #[.string s] w (PcPost w (pieceT s)) := by
  have hres := Blk.new w 39 #[.int .i64 0, .int .u64 0, .string ⟨#[]⟩, .slice none 0 0]
  have hcall := refDecodeF_any s (w.alloc (.cells #[.int .i64 0, .int .u64 0, .string ⟨#[]⟩, .slice none 0 0] 39)) hs
  unfold pieceT
  cases hq : tm.decode (bn s) with
  | bad err =>
    rw [show tm.decode s.data.toList = .bad err from hq] at hcall
    clear hq
    go_enter Try.func50, Try.ntmps50
    go_wp2_with fail
    refine hcall.mono ?_
    rintro e w2 ⟨hb, hne, rfl⟩
    have d2 : (err != 0) = true := by simpa using hne
    clear hne
    have hz := hb.size
    simp only [World.size_alloc] at hb hz
    have hB0 := hres.below hb (by omega)
    have q0 := hB0.cell 0
    have q1 := hB0.cell 1
    have q2 := hB0.cell 2
    have q3 := hB0.cell 3
    simp at q0 q1 q2 q3
    have f0 := hB0.frozen 0
    have f1 := hB0.frozen 1
    have f2 := hB0.frozen 2
    have f3 := hB0.frozen 3
    have hl3 : w.heap.size < w2.heap.size := by omega
    go_wp2_with fail
    refine bodyPost_ret (v := .agg #[.int .i64 2, .int .u64 0, .string s, .slice none 0 0]) (by simp [results, Try.results50, go_sem, q0, q1, q2, q3, hl3]) rfl ?_
    refine ⟨?_, none, 0, rfl, TF.z _ _ ⟨by omega, by omega⟩ ⟨by omega, by omega⟩ hs⟩
    exact (four_below (((Below.refl _ _).alloc (Nat.le_refl _) _).trans (hb.mono (by omega))) (Nat.le_refl _) _ _ _ _).alloc (by rw [four_size]; omega) _
  | ok t =>
    rw [show tm.decode s.data.toList = .ok t from hq] at hcall
    clear hq
    go_enter Try.func50, Try.ntmps50
    go_wp2_with fail
    refine hcall.mono ?_
    rintro e w2 ⟨hb, A, c, rfl, hT⟩
    have hz := hb.size
    simp only [World.size_alloc] at hb hz
    have hB0 := hres.below hb (by omega)
    have q0 := hB0.cell 0
    have q1 := hB0.cell 1
    have q2 := hB0.cell 2
    have q3 := hB0.cell 3
    simp at q0 q1 q2 q3
    have f0 := hB0.frozen 0
    have f1 := hB0.frozen 1
    have f2 := hB0.frozen 2
    have f3 := hB0.frozen 3
    have hl3 : w.heap.size < w2.heap.size := by omega
    go_wp2_with fail
    refine bodyPost_ret (v := .agg #[.int .i64 t.k, .int .u64 t.n, .string t.s, .slice A t.l.length c]) (by simp [results, Try.results50, go_sem, q0, q1, q2, q3, hl3]) rfl ?_
    refine ⟨?_, A, c, rfl, ?_⟩
    · exact (four_below (((Below.refl _ _).alloc (Nat.le_refl _) _).trans (hb.mono (by omega))) (Nat.le_refl _) _ _ _ _).alloc (by rw [four_size]; omega) _
    · exact tf_four2 hT (fun k hk => by have h1 := hk.1; have h2 := hk.2; simp only [World.size_alloc] at h1; omega) _ _ _ _ _

/-! ### what holds of a piece -/
mutual
/-- every box in it holds one term -/
def bxT : T → Prop
  | .mk k _ _ l => (k = 4 → l.length = 1) ∧ bxL l
def bxL : List T → Prop
  | [] => True
  | t :: l => bxT t ∧ bxL l
end
mutual
theorem bx_shaped : ∀ t : T, t.shaped = true → bxT t
  | .mk k n s l, h => by
    have h1 := h
    rw [shaped_eq, Bool.and_eq_true] at h1
    exact ⟨(one_kind h1.1).2.2.2.2.2.2.2, bxL_shaped l h1.2⟩
theorem bxL_shaped : ∀ l : List T, shapedL l = true → bxL l
  | [], _ => trivial
  | t :: l, h => by
    rw [shapedL, Bool.and_eq_true] at h
    exact ⟨bx_shaped t h.1, bxL_shaped l h.2⟩
end
theorem bxL_app : ∀ {a b : List T}, bxL (a ++ b) ↔ bxL a ∧ bxL b
  | [], b => by simp [bxL]
  | t :: a, b => by rw [List.cons_append, bxL, bxL, bxL_app, and_assoc]
theorem bxT.list {t : T} (h : bxT t) : (t.k = 4 → t.l.length = 1) ∧ bxL t.l := by cases t; exact h
theorem sizeL_app : ∀ a b : List T, sizeL (a ++ b) = sizeL a + sizeL b
  | [], b => by simp [sizeL]
  | t :: a, b => by rw [List.cons_append, sizeL, sizeL, sizeL_app a b]; omega
theorem right_facts {t : T} (h : t.right = 0) : t.size ≤ 4000 ∧ t.shaped = true := by
  unfold T.right at h
  split at h
  · cases h
  · split at h
    · cases h
    · split at h
      · rename_i h1 _ h3; exact ⟨by omega, h3⟩
      · cases h
theorem piece_facts (s : ByteArray) : (pieceT s).size ≤ 4000 ∧ bxT (pieceT s) := by
  unfold pieceT
  cases h : tm.decode (bn s) with
  | bad e => exact ⟨by simp [T.size, sizeL], by simp [bxT, bxL]⟩
  | ok t =>
    obtain ⟨_, h2, _⟩ := decode_back h
    have := right_facts h2
    exact ⟨this.1, bx_shaped _ this.2⟩

end Go.Proofs.Ytjlglfjikfpboaa.thiefs

/- One step of the going through, in pure words; the maps in memory together. -/

namespace Go.Proofs.Ytjlglfjikfpboaa.thiefs
set_option linter.unusedVariables false
set_option linter.unusedSimpArgs false
open Go.RowKit Go.Proofs.Ytjlglfjikfpboaa.base Go.Proofs.Ytjlglfjikfpboaa.tm Go.Proofs.Ytjlglfjikfpboaa.lies Go.Proofs.Ytjlglfjikfpboaa.copies Go.Proofs.Ytjlglfjikfpboaa.reads Go.Proofs.Ytjlglfjikfpboaa.texts

abbrev p1 : Int × List T → Int := Prod.fst
def atL (S : Wt) (n : Int) : List T := ((lkBy p1 S n).map Prod.snd).getD []
def getP (K : List Int) (A : List (List UInt8)) (S : Wt) (t : T) : List Int × List (List UInt8) × Wt × List T :=
  if t.k = 2 then (K, insD (bn t.s) A false, S, [])
  else if t.k = 3 then (putBy id K t.n, A, delBy p1 S t.n, atL S t.n)
  else if t.k = 4 then (if t.n ∈ K then (K, A, S, t.l) else (K, A, putBy p1 S (t.n, atL S t.n ++ t.l), []))
  else if t.k = 5 then (K, A, S, t.l) else (K, A, S, [])

theorem mem_SG {C : Int → Bool} {S : Wt} {x : T} : x ∈ SG C S ↔ ∃ p ∈ S, C p.1 = true ∧ x ∈ gotL C p.2 := by
  unfold SG
  rw [List.mem_flatMap]
  constructor
  · rintro ⟨p, hp, hx⟩
    split at hx
    · exact ⟨p, hp, by assumption, hx⟩
    · cases hx
  · rintro ⟨p, hp, hc, hx⟩
    exact ⟨p, hp, by rw [if_pos hc]; exact hx⟩
def fB (C : Int → Bool) (p : Int × List T) : Nat := if C p.1 then BN (gotL C p.2) else 0
def fN (C : Int → Bool) (p : Int × List T) : Nat := if C p.1 then 0 else p.2.length
theorem BN_SG (C : Int → Bool) : ∀ S : Wt, BN (SG C S) = (S.map (fB C)).sum
  | [] => rfl
  | p :: S => by
    have e : SG C (p :: S) = (if C p.1 then gotL C p.2 else []) ++ SG C S := List.flatMap_cons
    rw [e, BN_app, BN_SG C S, List.map_cons, List.sum_cons]
    unfold fB
    split <;> rfl
theorem SN_sum (C : Int → Bool) (S : Wt) : SN C S = (S.map (fN C)).sum := rfl
theorem atL_del {S : Wt} (h : Up p1 S) (n : Int) (f : Int × List T → Nat) (h0 : f (n, []) = 0) : (S.map f).sum = f (n, atL S n) + ((delBy p1 S n).map f).sum ∧ ∀ p, p ∈ S ↔ (p = (n, atL S n) ∧ (lkBy p1 S n).isSome = true) ∨ p ∈ delBy p1 S n := by
  unfold atL
  cases hl : lkBy p1 S n with
  | none =>
    have h1 := lkBy_none hl
    rw [delBy_id h1]
    exact ⟨by simp [h0], fun p => by simp⟩
  | some q =>
    obtain ⟨h1, h2⟩ := lkBy_some hl
    obtain ⟨m, l⟩ := q
    simp only [p1] at h2
    subst h2
    refine ⟨delBy_sum f h h1, fun p => ?_⟩
    rw [delBy_mem]
    simp only [Option.map_some, Option.getD_some, Option.isSome_some, and_true]
    constructor
    · intro hp
      by_cases e : p1 p = m
      · left
        have h3 : ∀ {L : Wt}, Up p1 L → p ∈ L → (m, l) ∈ L → p = (m, l) := by
          intro L
          induction L with
          | nil => intro _ h; cases h
          | cons z r ih =>
            intro hu a b
            obtain ⟨u1, u2⟩ := List.pairwise_cons.1 hu
            rcases List.mem_cons.1 a with a1 | a1
            · rcases List.mem_cons.1 b with b1 | b1
              · rw [a1, b1]
              · have := u1 _ b1; rw [← a1] at this; simp only [p1] at this e; omega
            · rcases List.mem_cons.1 b with b1 | b1
              · have := u1 _ a1; rw [← b1] at this; simp only [p1] at this e; omega
              · exact ih u2 a1 b1
        exact h3 h hp h1
      · exact .inr ⟨hp, e⟩
    · rintro (rfl | h3)
      · exact h1
      · exact h3.1
theorem atL_nil {S : Wt} {n : Int} (h : (lkBy p1 S n).isSome = false) : atL S n = [] := by
  unfold atL
  cases hl : lkBy p1 S n with
  | none => rfl
  | some q => rw [hl] at h; cases h
theorem SG_del {S : Wt} (h : Up p1 S) (n : Int) {C : Int → Bool} (hC : C n = true) : (∀ x, x ∈ SG C S ↔ x ∈ gotL C (atL S n) ∨ x ∈ SG C (delBy p1 S n)) ∧ BN (SG C S) = BN (gotL C (atL S n)) + BN (SG C (delBy p1 S n)) ∧ SN C S = SN C (delBy p1 S n) := by
  refine ⟨fun x => ?_, ?_, ?_⟩
  · have hm := (atL_del h n (fun _ => 0) rfl).2
    rw [mem_SG, mem_SG]
    constructor
    · rintro ⟨p, hp, hc, hx⟩
      rcases (hm p).1 hp with ⟨rfl, _⟩ | h1
      · exact .inl hx
      · exact .inr ⟨p, h1, hc, hx⟩
    · rintro (hx | ⟨p, hp, hc, hx⟩)
      · cases hs : (lkBy p1 S n).isSome with
        | false => rw [atL_nil hs] at hx; cases hx
        | true => exact ⟨(n, atL S n), (hm _).2 (.inl ⟨rfl, hs⟩), hC, hx⟩
      · exact ⟨p, (hm p).2 (.inr hp), hc, hx⟩
  · rw [BN_SG, BN_SG, (atL_del h n (fB C) (by simp [fB, gotL, BN])).1]
    congr 1
    unfold fB
    rw [if_pos hC]
  · rw [SN_sum, SN_sum, (atL_del h n (fN C) (by simp [fN])).1]
    unfold fN
    rw [if_pos hC, Nat.zero_add]
theorem flat_ins {C : Int → Bool} {x : Int × List T} (hc : C x.1 = false) : ∀ L : Wt, SG C (insBy p1 x L) = SG C L
  | [] => by simp [insBy, SG, hc]
  | z :: r => by
    rw [insBy]
    split
    · show (if C x.1 then gotL C x.2 else []) ++ SG C (z :: r) = _
      rw [hc]; rfl
    · show (if C z.1 then gotL C z.2 else []) ++ SG C (insBy p1 x r) = (if C z.1 then gotL C z.2 else []) ++ SG C r
      rw [flat_ins hc r]
theorem flat_del {C : Int → Bool} {n : Int} (hc : C n = false) : ∀ L : Wt, SG C (delBy p1 L n) = SG C L
  | [] => rfl
  | z :: r => by
    unfold delBy
    rw [List.filter_cons]
    have ih := flat_del hc r
    unfold delBy at ih
    split
    · show (if C z.1 then gotL C z.2 else []) ++ SG C _ = (if C z.1 then gotL C z.2 else []) ++ SG C r
      rw [ih]
    · rename_i h
      have e : z.1 = n := by simpa [p1] using h
      show SG C _ = (if C z.1 then gotL C z.2 else []) ++ SG C r
      rw [ih, e, hc]; rfl
theorem SG_put {S : Wt} (h : Up p1 S) (n : Int) (l : List T) (C : Int → Bool) : (C n = true → (∀ x, x ∈ SG C (putBy p1 S (n, atL S n ++ l)) ↔ x ∈ gotL C l ∨ x ∈ SG C S) ∧ BN (SG C (putBy p1 S (n, atL S n ++ l))) = BN (gotL C l) + BN (SG C S) ∧ SN C (putBy p1 S (n, atL S n ++ l)) = SN C S) ∧
    (C n = false → SG C (putBy p1 S (n, atL S n ++ l)) = SG C S ∧ SN C (putBy p1 S (n, atL S n ++ l)) = SN C S + l.length) := by
  refine ⟨fun hC => ⟨fun x => ?_, ?_, ?_⟩, fun hC => ⟨?_, ?_⟩⟩
  · obtain ⟨h1, _, _⟩ := SG_del h n hC
    rw [h1, mem_SG]
    constructor
    · rintro ⟨p, hp, hc, hx⟩
      rcases putBy_mem.1 hp with rfl | ⟨h2, h3⟩
      · rw [gotL_app, List.mem_append] at hx
        exact hx.elim (fun h => .inr (.inl h)) .inl
      · exact .inr (.inr (mem_SG.2 ⟨p, delBy_mem.2 ⟨h2, h3⟩, hc, hx⟩))
    · rintro (hx | hx | hx)
      · exact ⟨_, putBy_mem.2 (.inl rfl), hC, by rw [gotL_app, List.mem_append]; exact .inr hx⟩
      · exact ⟨_, putBy_mem.2 (.inl rfl), hC, by rw [gotL_app, List.mem_append]; exact .inl hx⟩
      · obtain ⟨p, hp, hc, hx⟩ := mem_SG.1 hx
        exact ⟨p, putBy_mem.2 (.inr (delBy_mem.1 hp)), hc, hx⟩
  · obtain ⟨_, h2, _⟩ := SG_del h n hC
    rw [h2, BN_SG, putBy, insBy_sum, ← BN_SG]
    unfold fB
    rw [if_pos hC, gotL_app, BN_app]
    show _ + _ + BN (SG C (delBy p1 S n)) = _
    omega
  · obtain ⟨_, _, h3⟩ := SG_del h n hC
    rw [h3, SN_sum, putBy, insBy_sum, ← SN_sum]
    unfold fN
    rw [if_pos hC]
    exact Nat.zero_add _
  · rw [putBy, flat_ins hC, flat_del hC]
  · rw [SN_sum, putBy, insBy_sum, SN_sum, (atL_del h n (fN C) (by simp [fN])).1]
    unfold fN
    simp only [hC, Bool.false_eq_true, if_false, List.length_append]
    show _ + _ + ((delBy p1 S n).map _).sum = _
    omega
/-- how much is still to be gone through -/
def lots (D : List T) (S : Wt) : Nat := sizeL D + (S.map fun p => sizeL p.2).sum
structure Ok (P : List T) (K : List Int) (A : List (List UInt8)) (S : Wt) (D : List T) : Prop where
  inv : Inv P K A S D
  upK : Up id K
  upA : A.Pairwise (· < ·)
  upS : Up p1 S
  bxD : bxL D
  bxS : ∀ p ∈ S, bxL p.2
  cnt : K.length + A.length + S.length + lots D S ≤ sizeL P
theorem Ok.start : Ok [] [] [] [] [] := ⟨Inv.start, List.Pairwise.nil, List.Pairwise.nil, List.Pairwise.nil, trivial, (fun p h => by cases h), by simp [lots, sizeL]⟩
theorem Ok.piece {P : List T} {K : List Int} {A : List (List UInt8)} {S : Wt} (h : Ok P K A S []) {t : T} (hb : bxT t) : Ok (P ++ [t]) K A S [t] :=
  ⟨h.inv.piece t, h.upK, h.upA, h.upS, ⟨hb, trivial⟩, h.bxS, by have := h.cnt; unfold lots at this ⊢; rw [sizeL_app]; simp only [sizeL] at this ⊢; omega⟩
theorem Ok.step {P : List T} {K : List Int} {A : List (List UInt8)} {S : Wt} {D : List T} {t : T} (h : Ok P K A S (D ++ [t])) :
    Ok P (getP K A S t).1 (getP K A S t).2.1 (getP K A S t).2.2.1 (D ++ (getP K A S t).2.2.2) ∧ lots (D ++ (getP K A S t).2.2.2) (getP K A S t).2.2.1 < lots (D ++ [t]) S := by
  obtain ⟨hi, uK, uA, uS, bD, bS, hc⟩ := h
  obtain ⟨bD1, bt, _⟩ := bxL_app.1 bD
  obtain ⟨bt1, bt2⟩ := bxT.list bt
  have hs : sizeL (D ++ [t]) = sizeL D + (sizeL t.l + 1) := by rw [sizeL_app, sizeL, sizeL, size_eq]
  unfold getP
  by_cases k2 : t.k = 2
  · rw [if_pos k2]
    obtain ⟨q1, q2⟩ := insD_props (bn t.s) A uA
    have q3 := insD_len (bn t.s) A false
    have h1 := hi.atom (R := []) k2 q2
    unfold lots at hc ⊢
    simp only [List.append_nil] at h1 ⊢
    exact ⟨⟨h1, uK, q1, uS, bD1, bS, by unfold lots; (try dsimp only); omega⟩, by omega⟩
  · rw [if_neg k2]
    by_cases k3 : t.k = 3
    · rw [if_pos k3]
      have h1 := hi.key (R := []) (K' := putBy id K t.n) (S' := delBy p1 S t.n) (D' := D ++ atL S t.n) (W := atL S t.n) k3 (fun n => by
        rw [putBy_mem]
        constructor
        · rintro (h | h)
          · exact .inl h
          · exact .inr h.1
        · rintro (h | h)
          · exact .inl h
          · by_cases e : n = t.n
            · exact .inl e
            · exact .inr ⟨h, e⟩) (fun p hp => ⟨(delBy_mem.1 hp).2, (delBy_mem.1 hp).1⟩) (fun C => by rw [List.append_nil, gotL_app]) (fun C hC => SG_del uS t.n hC)
      have q1 := putBy_len (key := id) K t.n
      have q2 := delBy_len (key := p1) S t.n
      have q3 := (atL_del uS t.n (fun p => sizeL p.2) rfl).1
      have q4 := (atL_del uS t.n (fun p => sizeL p.2) rfl).2
      simp only [] at q3
      unfold lots at hc ⊢
      refine ⟨⟨h1, putBy_up uK _, uA, delBy_up uS _, bxL_app.2 ⟨bD1, ?_⟩, fun p hp => bS p (delBy_mem.1 hp).1, ?_⟩, ?_⟩
      · cases hq : (lkBy p1 S t.n).isSome with
        | false => rw [atL_nil hq]; trivial
        | true => exact bS (t.n, atL S t.n) ((q4 _).2 (.inl ⟨rfl, hq⟩))
      · unfold lots; (try dsimp only); rw [sizeL_app]; omega
      · simp only [sizeL_app] at hs hc ⊢; omega
    · rw [if_neg k3]
      by_cases k4 : t.k = 4
      · rw [if_pos k4]
        by_cases hK : t.n ∈ K
        · rw [if_pos hK]
          have h1 := hi.opened (R := []) k4 hK
          unfold lots at hc ⊢
          simp only [List.append_nil] at h1 ⊢
          exact ⟨⟨h1, uK, uA, uS, bxL_app.2 ⟨bD1, bt2⟩, bS, by unfold lots; (try dsimp only); rw [sizeL_app]; omega⟩, by simp only [sizeL_app] at hs ⊢; omega⟩
        · rw [if_neg hK]
          have h1 := hi.wait (R := []) (S' := putBy p1 S (t.n, atL S t.n ++ t.l)) k4 (bt1 k4) (fun p hp => by
            rcases putBy_mem.1 hp with rfl | hp
            · exact hK
            · exact hi.apart p hp.1) (fun C => SG_put uS t.n t.l C)
          have q1 := putBy_len (key := p1) S (t.n, atL S t.n ++ t.l)
          have q3 := (atL_del uS t.n (fun p => sizeL p.2) rfl).1
          have q4 := (atL_del uS t.n (fun p => sizeL p.2) rfl).2
          have q5 : ((putBy p1 S (t.n, atL S t.n ++ t.l)).map fun p => sizeL p.2).sum = sizeL (atL S t.n) + sizeL t.l + ((delBy p1 S t.n).map fun p => sizeL p.2).sum := by
            rw [putBy, insBy_sum, sizeL_app]
          simp only [] at q3
          unfold lots at hc ⊢
          simp only [List.append_nil] at h1 ⊢
          refine ⟨⟨h1, uK, uA, putBy_up uS _, bD1, fun p hp => ?_, ?_⟩, by omega⟩
          · rcases putBy_mem.1 hp with rfl | hp
            · refine bxL_app.2 ⟨?_, bt2⟩
              cases hq : (lkBy p1 S t.n).isSome with
              | false => rw [atL_nil hq]; trivial
              | true => exact bS (t.n, atL S t.n) ((q4 _).2 (.inl ⟨rfl, hq⟩))
            · exact bS p hp.1
          · unfold lots; (try dsimp only); omega
      · rw [if_neg k4]
        by_cases k5 : t.k = 5
        · rw [if_pos k5]
          have h1 := hi.row (R := []) k5
          unfold lots at hc ⊢
          simp only [List.append_nil] at h1 ⊢
          exact ⟨⟨h1, uK, uA, uS, bxL_app.2 ⟨bD1, bt2⟩, bS, by unfold lots; (try dsimp only); rw [sizeL_app]; omega⟩, by simp only [sizeL_app] at hs ⊢; omega⟩
        · rw [if_neg k5]
          have h1 := hi.num (R := []) k2 k3 k4 k5
          unfold lots at hc ⊢
          simp only [List.append_nil] at h1 ⊢
          exact ⟨⟨h1, uK, uA, uS, bD1, bS, by unfold lots; (try dsimp only); omega⟩, by omega⟩

/-! ### in memory -/
/-- what waits, in memory: each list a row of its own in a block of Z, the terms' lists in F -/
def SAt (w : World) (ms : Nat) (F Z : Nat → Prop) (es : List ES) : Prop :=
  OwnS w ms es ∧ (∀ e ∈ es, (0 ≤ e.n ∧ e.n < 18446744073709551616) ∧ Trow w F e.l e.v ∧ ∀ g, e.v.ownBlock = some g → Z g) ∧ ∀ e ∈ es, ∀ e' ∈ es, e.n ≠ e'.n → ∀ g, e.v.ownBlock = some g → e'.v.ownBlock ≠ some g
abbrev pS (e : ES) : Int × List T := (e.n, e.l)
structure LAt (w : World) (mk ma ms : Nat) (F Z : Nat → Prop) (K : List Int) (A : List (List UInt8)) (S : Wt) : Prop where
  k : OwnK w mk K
  a : OwnT w ma A
  s : ∃ es : List ES, es.map pS = S ∧ SAt w ms F Z es
  ne : mk ≠ ma ∧ mk ≠ ms ∧ ma ≠ ms
  f : ∀ g, F g → g < w.heap.size ∧ g ≠ mk ∧ g ≠ ma ∧ g ≠ ms ∧ ¬ Z g
  z : ∀ g, Z g → g < w.heap.size ∧ g ≠ mk ∧ g ≠ ma ∧ g ≠ ms
section
variable {w w' : World} {mk ma ms : Nat} {F Z G : Nat → Prop} {K : List Int} {A : List (List UInt8)} {S : Wt}
theorem LAt.lt (h : LAt w mk ma ms F Z K A S) : mk < w.heap.size ∧ ma < w.heap.size ∧ ms < w.heap.size := by
  obtain ⟨es, _, h1, _⟩ := h.s
  exact ⟨h.k.lt, h.a.lt, h1.lt⟩
theorem SAt.keep {R : Nat → Prop} {es : List ES} (h : SAt w ms F Z es) (hk : Keep R w w') (h1 : ¬ R ms) (h2 : ∀ g, F g → g < w.heap.size ∧ ¬ R g) (h3 : ∀ g, Z g → g < w.heap.size ∧ ¬ R g) : SAt w' ms F Z es :=
  ⟨own_block h.1 (hk.block ms h.1.lt h1), fun e he => ⟨(h.2.1 e he).1, (h.2.1 e he).2.1.agree (hk.agree h2) (fun g hg => hk.block g (h3 g ((h.2.1 e he).2.2 g hg)).1 (h3 g ((h.2.1 e he).2.2 g hg)).2), (h.2.1 e he).2.2⟩, h.2.2⟩
theorem LAt.keep {R : Nat → Prop} (h : LAt w mk ma ms F Z K A S) (hk : Keep R w w') (h1 : ¬ R mk) (h2 : ¬ R ma) (h3 : ¬ R ms) (h4 : ∀ g, F g → ¬ R g) (h5 : ∀ g, Z g → ¬ R g) : LAt w' mk ma ms F Z K A S := by
  obtain ⟨l1, l2, l3⟩ := h.lt
  obtain ⟨es, e1, e2⟩ := h.s
  exact ⟨own_block h.k (hk.block mk l1 h1), own_block h.a (hk.block ma l2 h2), ⟨es, e1, e2.keep hk h3 (fun g hg => ⟨(h.f g hg).1, h4 g hg⟩) (fun g hg => ⟨(h.z g hg).1, h5 g hg⟩)⟩, h.ne,
    fun g hg => ⟨Nat.lt_of_lt_of_le (h.f g hg).1 hk.size, (h.f g hg).2⟩, fun g hg => ⟨Nat.lt_of_lt_of_le (h.z g hg).1 hk.size, (h.z g hg).2⟩⟩
theorem LAt.below (h : LAt w mk ma ms F Z K A S) (hb : Below w.heap.size w w') : LAt w' mk ma ms F Z K A S := h.keep (R := fun _ => False) (Keep.of_below hb) id id id (fun _ _ => id) (fun _ _ => id)
theorem LAt.more (h : LAt w mk ma ms F Z K A S) (hG : ∀ g, F g → G g) (h1 : ∀ g, G g → F g ∨ (g < w.heap.size ∧ g ≠ mk ∧ g ≠ ma ∧ g ≠ ms ∧ ¬ Z g)) : LAt w mk ma ms G Z K A S := by
  obtain ⟨es, e1, e2, e3, e4⟩ := h.s
  exact ⟨h.k, h.a, ⟨es, e1, e2, fun e he => ⟨(e3 e he).1, (e3 e he).2.1.mono hG, (e3 e he).2.2⟩, e4⟩, h.ne, fun g hg => (h1 g hg).elim (h.f g) id, h.z⟩
theorem keep_grown {b : Nat} (h : w.grownBy w' (some b)) : Keep (fun g => g = b) w w' := ⟨h.os, h.tape, h.output, h.size, fun k hk hn => h.block k hk (fun e => hn (by injection e))⟩
end
theorem lkBy_map (es : List ES) (n : Int) : lkBy p1 (es.map pS) n = (lkBy ES.n es n).map pS := by
  unfold lkBy
  rw [List.find?_map]
  rfl
theorem atL_map (es : List ES) (n : Int) : atL (es.map pS) n = (atS es n).l := by
  unfold atL atS
  rw [lkBy_map]
  cases lkBy ES.n es n <;> rfl
theorem delBy_map (es : List ES) (n : Int) : delBy p1 (es.map pS) n = (delBy ES.n es n).map pS := by
  unfold delBy
  rw [List.filter_map]
  rfl
theorem insBy_map (e : ES) : ∀ es : List ES, insBy p1 (pS e) (es.map pS) = (insBy ES.n e es).map pS
  | [] => rfl
  | y :: r => by
    rw [List.map_cons, insBy, insBy]
    by_cases h : e.n < y.n
    · rw [if_pos (show p1 (pS e) < p1 (pS y) from h), if_pos h]; rfl
    · rw [if_neg (show ¬ p1 (pS e) < p1 (pS y) from h), if_neg h, insBy_map e r]; rfl
theorem putBy_map (es : List ES) (e : ES) : putBy p1 (es.map pS) (pS e) = (putBy ES.n es e).map pS := by
  unfold putBy
  rw [show p1 (pS e) = e.n from rfl, delBy_map, insBy_map]
theorem atS_mem {es : List ES} {n : Int} : (atS es n ∈ es ∧ (atS es n).n = n) ∨ atS es n = ⟨n, [], none, 0⟩ := by
  unfold atS
  cases h : lkBy ES.n es n with
  | none => exact .inr rfl
  | some e => exact .inl (lkBy_some h)
/-- what a step leaves -/
def GPost (w : World) (mk ma ms : Nat) (F Z : Nat → Prop) (r : List Int × List (List UInt8) × Wt × List T) (e : Ending) (w' : World) : Prop :=
  ∃ (Q : Option Addr) (c : Nat) (ys : List Value) (Z' : Nat → Prop), e = .returned (.slice Q r.2.2.2.length c) ∧ LAt w' mk ma ms F Z' r.1 r.2.1 r.2.2.1 ∧ Keep (fun g => g = mk ∨ g = ma ∨ g = ms ∨ Z g) w w' ∧ (∀ g, Z' g → Z g ∨ w.heap.size ≤ g) ∧ r.2.2.2.length ≤ c ∧ RdF w' (fun g => F g ∨ Z g) Q ys ∧ TLF w' F r.2.2.2 ys

end Go.Proofs.Ytjlglfjikfpboaa.thiefs

/- loot's unlock, open, get: one step. -/

namespace Go.Proofs.Ytjlglfjikfpboaa.thiefs
set_option linter.unusedVariables false
set_option linter.unusedSimpArgs false
open Go.RowKit Go.Proofs.Ytjlglfjikfpboaa.base Go.Proofs.Ytjlglfjikfpboaa.tm Go.Proofs.Ytjlglfjikfpboaa.lies Go.Proofs.Ytjlglfjikfpboaa.copies Go.Proofs.Ytjlglfjikfpboaa.reads Go.Proofs.Ytjlglfjikfpboaa.texts

theorem len_le_size : ∀ l : List T, l.length ≤ sizeL l
  | [] => Nat.le_refl _
  | t :: l => by rw [List.length_cons, sizeL]; have := len_le_size l; have := size_pos t; omega
abbrev LC (mk ma ms : Nat) : Array Value := #[.map (some mk), .map (some ma), .map (some ms)]
section
variable {w w1 w2 w3 : World} {mk ma ms : Nat} {F Z : Nat → Prop} {K : List Int} {A : List (List UInt8)} {es : List ES}
theorem at_row {n : Int} (h : SAt w ms F Z es) : ∃ ys, (atS es n).l.length ≤ (atS es n).c ∧ RdF w (fun g => F g ∨ Z g) (atS es n).A ys ∧ TLF w F (atS es n).l ys := by
  rcases atS_mem (es := es) (n := n) with ⟨h1, _⟩ | h1
  · obtain ⟨Q, c, ys, e, q1, _, q3, q4⟩ := (h.2.1 _ h1).2.1.rd
    injection e with e1 _ e3
    subst e1; subst e3
    exact ⟨ys, q1, q3.mono fun g hg => .inr ((h.2.1 _ h1).2.2 g hg), q4⟩
  · rw [h1]
    exact ⟨[], Nat.le_refl _, RdF.nil _ _ _, rfl⟩
theorem at_own {n : Int} (h : SAt w ms F Z es) : Trow w F (atS es n).l (atS es n).v ∧ (∀ g, (atS es n).v.ownBlock = some g → Z g) ∧ ∀ e ∈ es, e.n ≠ n → ∀ g, (atS es n).v.ownBlock = some g → e.v.ownBlock ≠ some g := by
  rcases atS_mem (es := es) (n := n) with ⟨h1, h2⟩ | h1
  · exact ⟨(h.2.1 _ h1).2.1, (h.2.1 _ h1).2.2, fun e he hn g hg => h.2.2 _ h1 e he (by rw [h2]; exact fun e => hn e.symm) g hg⟩
  · rw [h1]
    exact ⟨Trow.nil _ _, fun g hg => by simp [Value.ownBlock] at hg, fun e _ _ g hg => by simp [Value.ownBlock] at hg⟩
theorem unlock_end {n : Int} (hS : SAt w ms F Z es) (hA : OwnT w ma A) (ne : mk ≠ ma ∧ mk ≠ ms ∧ ma ≠ ms) (hf : ∀ g, F g → g < w.heap.size ∧ g ≠ mk ∧ g ≠ ma ∧ g ≠ ms ∧ ¬ Z g) (hz : ∀ g, Z g → g < w.heap.size ∧ g ≠ mk ∧ g ≠ ma ∧ g ≠ ms) (hm : mk < w.heap.size)
    (b1 : Below w.heap.size w w1) (hK : OwnK w2 mk K) (g2 : w1.grownBy w2 (some mk)) (hD : OwnS w3 ms (delBy ES.n es n)) (g3 : w2.grownBy w3 (some ms)) :
    GPost w mk ma ms F Z (K, A, delBy p1 (es.map pS) n, atL (es.map pS) n) (.returned (.slice (atS es n).A (atS es n).l.length (atS es n).c)) w3 := by
  have k1 : Keep (fun g => g = mk ∨ g = ms) w w3 := ((Keep.of_below (S := fun g => g = mk ∨ g = ms) b1).trans (keep_grown g2) (fun g hg _ => .inl hg)).trans (keep_grown g3) (fun g hg _ => .inr hg)
  have k2 : Keep (fun g => g = mk ∨ g = ma ∨ g = ms ∨ Z g) w w3 := k1.mono fun g hg _ => hg.elim .inl (fun h => .inr (.inr (.inl h)))
  obtain ⟨ys, r1, r2, r3⟩ := at_row (n := n) hS
  have hFa : Agree w w3 F := k1.agree fun g hg => ⟨(hf g hg).1, fun e => e.elim (hf g hg).2.1 (hf g hg).2.2.2.1⟩
  have hZa : Agree w w3 Z := k1.agree fun g hg => ⟨(hz g hg).1, fun e => e.elim (hz g hg).2.1 (hz g hg).2.2.2⟩
  have hFZ : Agree w w3 (fun g => F g ∨ Z g) := fun g hg => hg.elim (hFa g) (hZa g)
  refine ⟨_, (atS es n).c, ys, Z, by rw [atL_map], ⟨?_, ?_, ⟨delBy ES.n es n, (delBy_map _ _).symm, hD, fun e he => ?_, fun e he e' he' => hS.2.2 e (delBy_mem.1 he).1 e' (delBy_mem.1 he').1⟩, ne, fun g hg => ⟨Nat.lt_of_lt_of_le (hf g hg).1 k1.size, (hf g hg).2⟩, fun g hg => ⟨Nat.lt_of_lt_of_le (hz g hg).1 k1.size, (hz g hg).2⟩⟩, k2, fun g hg => .inl hg, ?_, r2.agree hFZ, ?_⟩
  · exact own_block hK (g3.block mk hK.lt (fun e => ne.2.1 (by injection e)))
  · exact own_block hA (k1.block ma hA.lt (fun e => e.elim (fun e => ne.1 e.symm) ne.2.2))
  · have h1 := hS.2.1 e (delBy_mem.1 he).1
    exact ⟨h1.1, h1.2.1.agree hFa (fun g hg => hZa g (h1.2.2 g hg)), h1.2.2⟩
  · show (atL (es.map pS) n).length ≤ _
    rw [atL_map]; exact r1
  · show TLF w3 F (atL (es.map pS) n) ys
    rw [atL_map]; exact TLF.agree hFa _ _ r3
theorem same_end {S : Wt} {l : List T} {B : Option Addr} {c : Nat} {ys : List Value} {w' : World} (h : LAt w mk ma ms F Z K A S) (hb : Below w.heap.size w w') (hlc : l.length ≤ c) (hR : RdF w F B ys) (hL : TLF w F l ys) : GPost w mk ma ms F Z (K, A, S, l) (.returned (.slice B l.length c)) w' :=
  ⟨B, c, ys, Z, rfl, h.below hb, Keep.of_below hb, fun g hg => .inl hg, hlc, (hR.agree (Agree.of_below hb fun g hg => (h.f g hg).1)).mono fun g hg => .inl hg, TLF.agree (Agree.of_below hb fun g hg => (h.f g hg).1) _ _ hL⟩
theorem nil_end {S : Wt} {w' : World} {R : Nat → Prop} (h : LAt w' mk ma ms F Z K A S) (hk : Keep R w w') (hR : ∀ g, R g → g = mk ∨ g = ma ∨ g = ms ∨ Z g) : GPost w mk ma ms F Z (K, A, S, []) (.returned (.slice none 0 0)) w' :=
  ⟨none, 0, [], Z, rfl, h, hk.mono fun g hg _ => hR g hg, fun g hg => .inl hg, Nat.le_refl _, RdF.nil _ _ _, rfl⟩
theorem wait_end {W wb w8 : World} {n : Int} {l : List T} {A9 : Option Addr} {c9 : Nat} (h : LAt w mk ma ms F Z K A (es.map pS)) (hS : SAt w ms F Z es) (bW : Below w.heap.size w W) (hn : 0 ≤ n ∧ n < 18446744073709551616) (hb : Keep (fun g => (atS es n).v.ownBlock = some g) W wb)
    (h9 : Trow wb F ((atS es n).l ++ l) (.slice A9 ((atS es n).l ++ l).length c9)) (hat : ∀ g, (Value.slice A9 ((atS es n).l ++ l).length c9).ownBlock = some g → (atS es n).v.ownBlock = some g ∨ (W.heap.size ≤ g ∧ g < wb.heap.size))
    (hS8 : OwnS w8 ms (putBy ES.n es ⟨n, (atS es n).l ++ l, A9, c9⟩)) (hg8 : wb.grownBy w8 (some ms)) : GPost w mk ma ms F Z (K, A, putBy p1 (es.map pS) (n, atL (es.map pS) n ++ l), []) (.returned (.slice none 0 0)) w8 := by
  obtain ⟨l1, l2, l3⟩ := h.lt
  have hW := bW.size
  have hwb := hb.size
  obtain ⟨o1, o2, o3⟩ := at_own (n := n) hS
  have k1 : Keep (fun g => (atS es n).v.ownBlock = some g ∨ g = ms) W w8 := (hb.mono fun g hg _ => .inl hg).trans (keep_grown hg8) (fun g hg _ => .inr hg)
  have k2 : Keep (fun g => (atS es n).v.ownBlock = some g ∨ g = ms) w w8 := (Keep.of_below bW).trans k1 (fun g hg _ => hg)
  have kb : Keep (fun g => (atS es n).v.ownBlock = some g) w wb := (Keep.of_below bW).trans hb (fun g hg _ => hg)
  have hms : ∀ g, Z g → g ≠ ms := fun g hg => (h.z g hg).2.2.2
  have hF8 : Agree wb w8 F := fun g hg => hg8.block g (Nat.lt_of_lt_of_le (h.f g hg).1 kb.size) (fun e => (h.f g hg).2.2.2.1 (by injection e))
  have hFa : Agree w wb F := kb.agree fun g hg => ⟨(h.f g hg).1, fun e => (h.f g hg).2.2.2.2 (o2 g e)⟩
  have hne9 : ∀ g, (Value.slice A9 ((atS es n).l ++ l).length c9).ownBlock = some g → g ≠ ms ∧ g < wb.heap.size ∧ (Z g ∨ W.heap.size ≤ g) := fun g hg => by
    rcases hat g hg with h1 | h1
    · exact ⟨hms g (o2 g h1), Nat.lt_of_lt_of_le (h.z g (o2 g h1)).1 kb.size, .inl (o2 g h1)⟩
    · exact ⟨by omega, h1.2, .inr h1.1⟩
  refine ⟨none, 0, [], fun g => Z g ∨ (W.heap.size ≤ g ∧ g < wb.heap.size ∧ (Value.slice A9 ((atS es n).l ++ l).length c9).ownBlock = some g), rfl, ⟨?_, ?_, ⟨putBy ES.n es ⟨n, (atS es n).l ++ l, A9, c9⟩, ?_, hS8, fun e he => ?_, fun e he e' he' hne g hg => ?_⟩, h.ne, fun g hg => ?_, fun g hg => ?_⟩, k2.mono fun g hg _ => ?_, fun g hg => ?_, Nat.le_refl _, RdF.nil _ _ _, rfl⟩
  · exact own_block h.k (k2.block mk l1 (fun e => e.elim (fun e => (h.z _ (o2 _ e)).2.1 rfl) h.ne.2.1))
  · exact own_block h.a (k2.block ma l2 (fun e => e.elim (fun e => (h.z _ (o2 _ e)).2.2.1 rfl) h.ne.2.2))
  · rw [atL_map]; exact (putBy_map es ⟨n, (atS es n).l ++ l, A9, c9⟩).symm
  · rcases putBy_mem.1 he with rfl | ⟨he, hen⟩
    · exact ⟨hn, h9.agree hF8 (fun g hg => hg8.block g (hne9 g hg).2.1 (fun e => (hne9 g hg).1 (by injection e))), fun g hg => (hne9 g hg).2.2.imp id fun h => ⟨h, (hne9 g hg).2.1, hg⟩⟩
    · have h1 := hS.2.1 e he
      refine ⟨h1.1, (h1.2.1.agree hFa (fun g hg => kb.block g (h.z g (h1.2.2 g hg)).1 (fun e0 => o3 e he hen g e0 hg))).agree hF8 (fun g hg => hg8.block g (Nat.lt_of_lt_of_le (h.z g (h1.2.2 g hg)).1 kb.size) (fun e0 => hms g (h1.2.2 g hg) (by injection e0))), fun g hg => .inl (h1.2.2 g hg)⟩
  · rcases putBy_mem.1 he with rfl | ⟨he, hen⟩
    · rcases putBy_mem.1 he' with rfl | ⟨he', hen'⟩
      · exact absurd rfl hne
      · rcases hat g hg with h1 | h1
        · exact o3 e' he' hen' g h1
        · intro h2
          have := (h.z g ((hS.2.1 e' he').2.2 g h2)).1
          omega
    · rcases putBy_mem.1 he' with rfl | ⟨he', hen'⟩
      · intro h2
        rcases hat g h2 with h1 | h1
        · exact o3 e he hen g h1 hg
        · have := (h.z g ((hS.2.1 e he).2.2 g hg)).1
          omega
      · exact hS.2.2 e he e' he' hne g hg
  · refine ⟨Nat.lt_of_lt_of_le (h.f g hg).1 k2.size, (h.f g hg).2.1, (h.f g hg).2.2.1, (h.f g hg).2.2.2.1, fun e => ?_⟩
    rcases e with e | e
    · exact (h.f g hg).2.2.2.2 e
    · have := (h.f g hg).1; omega
  · rcases hg with hg | hg
    · exact ⟨Nat.lt_of_lt_of_le (h.z g hg).1 k2.size, (h.z g hg).2⟩
    · have := hg8.size
      exact ⟨by omega, by omega, by omega, by omega⟩
  · rcases hg with hg | hg
    · exact .inr (.inr (.inr (o2 g hg)))
    · exact .inr (.inr (.inl hg))
  · exact hg.imp id fun h => by omega
end

set_option maxRecDepth 100000 in
set_option maxHeartbeats 2000000 in
theorem unlock_ok (n : Int) (mk ma ms : Nat) (F Z : Nat → Prop) (K : List Int) (A : List (List UInt8)) (S : Wt) (w : World) (h : LAt w mk ma ms F Z K A S) (hn : 0 ≤ n ∧ n < 18446744073709551616) (hU : K.length < maxLen) :
    Calls Try.prog 157 #[.agg #[.map (some mk), .map (some ma), .map (some ms)], .int .u64 n] w (GPost w mk ma ms F Z (putBy id K n, A, delBy p1 S n, atL S n)) := by
  have x0 := Blk.new w 110 #[.map (some mk), .map (some ma), .map (some ms)]
  have b1 : Below w.heap.size w (w.alloc (.cells #[.map (some mk), .map (some ma), .map (some ms)] 110)) := (Below.refl _ _).alloc (Nat.le_refl _) _
  obtain ⟨l1, l2, l3⟩ := h.lt
  have h1 := h.below b1
  obtain ⟨es, rfl, hS⟩ := h.s
  have hS1 : OwnS (w.alloc (.cells #[.map (some mk), .map (some ma), .map (some ms)] 110)) ms es := own_block hS.1 (b1.block ms l3)
  have hk1 := h1.k
  go_enter Try.func157, Try.ntmps157
  go_wp2_with (first
    | (at_mapUpdate; refine wp_putK _ rfl _ _ _ rfl rfl hk1 hU rfl hn rfl ?_; intro w2 hK2 hg2; have x2 : Blk w2 w.heap.size 110 #[.map (some mk), .map (some ma), .map (some ms)] := (hg2.block _ x0.lt (fun e => by injection e with e; omega)).trans x0; have y0 := x2.cell 0; have y1 := x2.cell 1; have y2 := x2.cell 2; simp at y0 y1 y2; have hS2 : OwnS w2 ms es := own_block hS1 (hg2.block ms hS1.lt (fun e => h.ne.2.1 (by injection e with e; exact e.symm))))
    | (at_lookup; refine wp_lookS _ rfl _ _ rfl rfl hS2 rfl hn ?_)
    | (at_delete; refine wp_dropS _ rfl _ _ rfl rfl hS2 rfl hn ?_; intro w3 hS3 hg3)
    | go_in)
  go_ret
  exact unlock_end hS h.a h.ne h.f h.z l1 b1 hK2 hg2 hS3 hg3

set_option maxRecDepth 100000 in
set_option maxHeartbeats 2000000 in
theorem open_ok (k n : Int) (s : ByteArray) (l : List T) (B : Option Addr) (c : Nat) (mk ma ms : Nat) (F Z : Nat → Prop) (K : List Int) (A : List (List UInt8)) (S : Wt) (w : World) (h : LAt w mk ma ms F Z K A S) (hT : TF w F (.mk k n s l) (.slice B l.length c)) (hU : S.length < maxLen) (hcnt : sizeL (atL S n) + l.length ≤ 1000000) :
    Calls Try.prog 158 #[.agg #[.map (some mk), .map (some ma), .map (some ms)], .agg #[.int .i64 k, .int .u64 n, .string s, .slice B l.length c]] w (GPost w mk ma ms F Z (if n ∈ K then (K, A, S, l) else (K, A, putBy p1 S (n, atL S n ++ l), []))) := by
  obtain ⟨B0, c0, xs, e0, _, hn, hs, hlc, hl56, hR, hL⟩ := hT
  injection e0 with e1 _ e2
  subst e1; subst e2
  have x0 := (Blk.new w 110 #[.map (some mk), .map (some ma), .map (some ms)]).alloc (.cells #[.int .i64 k, .int .u64 n, .string s, .slice B l.length c] 39)
  have x1 := Blk.new (w.alloc (.cells #[.map (some mk), .map (some ma), .map (some ms)] 110)) 39 #[.int .i64 k, .int .u64 n, .string s, .slice B l.length c]
  simp only [World.size_alloc] at x1
  have b1 : Below w.heap.size w ((w.alloc (.cells #[.map (some mk), .map (some ma), .map (some ms)] 110)).alloc (.cells #[.int .i64 k, .int .u64 n, .string s, .slice B l.length c] 39)) := ((Below.refl _ _).alloc (Nat.le_refl _) _).alloc (by simp) _
  have h1 := h.below b1
  have hk1 := h1.k
  by_cases hK : n ∈ K
  · rw [if_pos hK]
    have d1 : decide (n ∈ K) = true := decide_eq_true hK
    have HK := lay hK
    clear hK
    have x2 := x0.alloc (.cells #[.agg #[]] 106)
    go_enter Try.func158, Try.ntmps158
    go_wp2_with (first | (at_lookup; refine wp_hasK _ rfl _ _ rfl rfl hk1 rfl hn ?_; rw [d1]) | go_in)
    go_ret
    exact same_end h (b1.alloc (by simp; omega) _) hlc hR hL
  · rw [if_neg hK]
    have d1 : decide (n ∈ K) = false := decide_eq_false hK
    clear hK
    go_enter Try.func158, Try.ntmps158
    go_wp2_with (first | (at_lookup; refine wp_hasK _ rfl _ _ rfl rfl hk1 rfl hn ?_; rw [d1]) | go_in)
    have hbW := b1.alloc (o := .cells #[] 106) (by simp; omega)
    have y0 := x0.alloc (.cells #[] 106)
    have y1 := x1.alloc (.cells #[] 106)
    generalize ((w.alloc (.cells #[.map (some mk), .map (some ma), .map (some ms)] 110)).alloc (.cells #[.int .i64 k, .int .u64 n, .string s, .slice B l.length c] 39)).alloc (.cells #[] 106) = W at hbW y0 y1 ⊢
    have z2 := y0.cell 2
    have u1 := y1.cell 1
    have u3 := y1.cell 3
    simp at z2 u1 u3
    have l5 := y0.lt
    have l6 := y1.lt
    obtain ⟨es, rfl, hS⟩ := h.s
    obtain ⟨l1, l2, l3⟩ := h.lt
    have hWz := hbW.size
    have hSW := own_block hS.1 (hbW.block ms l3)
    have hlms : ms < W.heap.size := by omega
    have n5 : ¬ (atS es n).v.ownBlock = some w.heap.size := fun e => by have := (h.z _ ((at_own (n := n) hS).2.1 _ e)).1; omega
    have n6 : ¬ (atS es n).v.ownBlock = some (w.heap.size + 1) := fun e => by have := (h.z _ ((at_own (n := n) hS).2.1 _ e)).1; omega
    have hfw : ∀ g, F g → g < W.heap.size := fun g hg => by have := (h.f g hg).1; omega
    have hzw : ∀ g, Z g → g < W.heap.size := fun g hg => by have := (h.z g hg).1; omega
    have hSA := hS.keep (R := fun _ => False) (Keep.of_below hbW) id (fun g hg => ⟨(h.f g hg).1, id⟩) (fun g hg => ⟨(h.z g hg).1, id⟩)
    have hR1 := hR.agree (Agree.of_below hbW fun g hg => (h.f g hg).1)
    have hL1 := TLF.agree (Agree.of_below hbW fun g hg => (h.f g hg).1) _ _ hL
    have hall : (atS es n).l.length + l.length ≤ 1000000 := by
      rw [atL_map] at hcnt
      have := len_le_size (atS es n).l
      omega
    have hlen : es.length < maxLen := by simpa using hU
    have hfz : ∀ g, F g → ¬ Z g := fun g hg => (h.f g hg).2.2.2.2
    have hzms : ∀ g, Z g → g ≠ ms := fun g hg => (h.z g hg).2.2.2
    have hS1 : Below W.heap.size W W.drew := (Below.refl _ _).drew
    have hS0 : Keep (fun g => (atS es n).v.ownBlock = some g) W W.drew := Keep.of_below hS1
    refine mix.region_D (fun w' => Keep (fun g => (atS es n).v.ownBlock = some g) W w') (fun j => j == 12) (by kernel_rfl) ?_
    generalize W.drew = Wd at hS0 hS1 ⊢
    refine mix.D_take (i := 0) (v := ?_) rfl (by kernel_rfl) (by kernel_rfl) (fun _ _ _ h => h) (Or.inl ⟨by rfl, ?_⟩) hS0 ?_
    rotate_left
    · intro w' hSw
      have y0 := (hSw.cell (p := ⟨w.heap.size, 2, none⟩) l5 n5).trans z2
      have y1 := (hSw.cell (p := ⟨w.heap.size + 1, 1, none⟩) l6 n6).trans u1
      have y2 := (hSw.cell (p := ⟨w.heap.size + 1, 3, none⟩) l6 n6).trans u3
      try simp only [List.getElem_toArray, List.getElem_cons_zero, List.getElem_cons_succ]
      go_simp
      exact rfl
    try simp only [Act.put, List.setIfInBounds_toArray, List.set_cons_zero, List.set_cons_succ, List.getElem_toArray, List.getElem_cons_zero, List.getElem_cons_succ]
    refine mix.D_take (i := 1) (v := ?_) rfl (by kernel_rfl) (by kernel_rfl) (fun _ _ _ h => h) (Or.inl ⟨by rfl, ?_⟩) hS0 ?_
    rotate_left
    · intro w' hSw
      have y0 := (hSw.cell (p := ⟨w.heap.size, 2, none⟩) l5 n5).trans z2
      have y1 := (hSw.cell (p := ⟨w.heap.size + 1, 1, none⟩) l6 n6).trans u1
      have y2 := (hSw.cell (p := ⟨w.heap.size + 1, 3, none⟩) l6 n6).trans u3
      try simp only [List.getElem_toArray, List.getElem_cons_zero, List.getElem_cons_succ]
      go_simp
      exact rfl
    try simp only [Act.put, List.setIfInBounds_toArray, List.set_cons_zero, List.set_cons_succ, List.getElem_toArray, List.getElem_cons_zero, List.getElem_cons_succ]
    refine mix.D_take (i := 2) (v := ?_) rfl (by kernel_rfl) (by kernel_rfl) (fun _ _ _ h => h) (Or.inl ⟨by rfl, ?_⟩) hS0 ?_
    rotate_left
    · intro w' hSw
      have y0 := (hSw.cell (p := ⟨w.heap.size, 2, none⟩) l5 n5).trans z2
      have y1 := (hSw.cell (p := ⟨w.heap.size + 1, 1, none⟩) l6 n6).trans u1
      have y2 := (hSw.cell (p := ⟨w.heap.size + 1, 3, none⟩) l6 n6).trans u3
      try simp only [List.getElem_toArray, List.getElem_cons_zero, List.getElem_cons_succ]
      go_simp
      exact rfl
    try simp only [Act.put, List.setIfInBounds_toArray, List.set_cons_zero, List.set_cons_succ, List.getElem_toArray, List.getElem_cons_zero, List.getElem_cons_succ]
    refine mix.D_take (i := 3) (v := ?_) rfl (by kernel_rfl) (by kernel_rfl) (fun _ _ _ h => h) (Or.inl ⟨by rfl, ?_⟩) hS0 ?_
    rotate_left
    · intro w' hSw
      have y0 := (hSw.cell (p := ⟨w.heap.size, 2, none⟩) l5 n5).trans z2
      have y1 := (hSw.cell (p := ⟨w.heap.size + 1, 1, none⟩) l6 n6).trans u1
      have y2 := (hSw.cell (p := ⟨w.heap.size + 1, 3, none⟩) l6 n6).trans u3
      try simp only [List.getElem_toArray, List.getElem_cons_zero, List.getElem_cons_succ]
      go_simp
      exact rfl
    try simp only [Act.put, List.setIfInBounds_toArray, List.set_cons_zero, List.set_cons_succ, List.getElem_toArray, List.getElem_cons_zero, List.getElem_cons_succ]
    refine mix.D_take (i := 4) (v := ?_) rfl (by kernel_rfl) (by kernel_rfl) (fun _ _ _ h => h) (Or.inl ⟨by rfl, ?_⟩) hS0 ?_
    rotate_left
    · intro w' hSw
      have y0 := (hSw.cell (p := ⟨w.heap.size, 2, none⟩) l5 n5).trans z2
      have y1 := (hSw.cell (p := ⟨w.heap.size + 1, 1, none⟩) l6 n6).trans u1
      have y2 := (hSw.cell (p := ⟨w.heap.size + 1, 3, none⟩) l6 n6).trans u3
      try simp only [List.getElem_toArray, List.getElem_cons_zero, List.getElem_cons_succ]
      go_simp
      exact rfl
    try simp only [Act.put, List.setIfInBounds_toArray, List.set_cons_zero, List.set_cons_succ, List.getElem_toArray, List.getElem_cons_zero, List.getElem_cons_succ]
    refine mix.D_take (i := 5) (v := ?_) rfl (by kernel_rfl) (by kernel_rfl) (fun _ _ _ h => h) (Or.inl ⟨by rfl, ?_⟩) hS0 ?_
    rotate_left
    · intro w' hSw
      have y0 := (hSw.cell (p := ⟨w.heap.size, 2, none⟩) l5 n5).trans z2
      have y1 := (hSw.cell (p := ⟨w.heap.size + 1, 1, none⟩) l6 n6).trans u1
      have y2 := (hSw.cell (p := ⟨w.heap.size + 1, 3, none⟩) l6 n6).trans u3
      try simp only [List.getElem_toArray, List.getElem_cons_zero, List.getElem_cons_succ]
      go_simp
      exact rfl
    try simp only [Act.put, List.setIfInBounds_toArray, List.set_cons_zero, List.set_cons_succ, List.getElem_toArray, List.getElem_cons_zero, List.getElem_cons_succ]
    refine mix.D_take (i := 6) (v := ?_) rfl (by kernel_rfl) (by kernel_rfl) (fun _ _ _ h => h) (Or.inl ⟨by rfl, ?_⟩) hS0 ?_
    rotate_left
    · intro w' hSw
      have y0 := (hSw.cell (p := ⟨w.heap.size, 2, none⟩) l5 n5).trans z2
      have y1 := (hSw.cell (p := ⟨w.heap.size + 1, 1, none⟩) l6 n6).trans u1
      have y2 := (hSw.cell (p := ⟨w.heap.size + 1, 3, none⟩) l6 n6).trans u3
      try simp only [List.getElem_toArray, List.getElem_cons_zero, List.getElem_cons_succ]
      go_simp
      exact rfl
    try simp only [Act.put, List.setIfInBounds_toArray, List.set_cons_zero, List.set_cons_succ, List.getElem_toArray, List.getElem_cons_zero, List.getElem_cons_succ]
    refine mix.D_take (i := 7) (v := ?_) rfl (by kernel_rfl) (by kernel_rfl) (fun _ _ _ h => h) (Or.inl ⟨by rfl, ?_⟩) hS0 ?_
    rotate_left
    · intro w' hSw
      have y0 := (hSw.cell (p := ⟨w.heap.size, 2, none⟩) l5 n5).trans z2
      have y1 := (hSw.cell (p := ⟨w.heap.size + 1, 1, none⟩) l6 n6).trans u1
      have y2 := (hSw.cell (p := ⟨w.heap.size + 1, 3, none⟩) l6 n6).trans u3
      try simp only [List.getElem_toArray, List.getElem_cons_zero, List.getElem_cons_succ]
      go_simp
      exact rfl
    try simp only [Act.put, List.setIfInBounds_toArray, List.set_cons_zero, List.set_cons_succ, List.getElem_toArray, List.getElem_cons_zero, List.getElem_cons_succ]
    refine mix.D_take (i := 9) (v := ?_) rfl (by kernel_rfl) (by kernel_rfl) (fun _ _ _ h => h) (Or.inl ⟨by rfl, ?_⟩) hS0 ?_
    rotate_left
    · intro w' hSw
      have y0 := (hSw.cell (p := ⟨w.heap.size, 2, none⟩) l5 n5).trans z2
      have y1 := (hSw.cell (p := ⟨w.heap.size + 1, 1, none⟩) l6 n6).trans u1
      have y2 := (hSw.cell (p := ⟨w.heap.size + 1, 3, none⟩) l6 n6).trans u3
      try simp only [List.getElem_toArray, List.getElem_cons_zero, List.getElem_cons_succ]
      go_simp
      exact rfl
    try simp only [Act.put, List.setIfInBounds_toArray, List.set_cons_zero, List.set_cons_succ, List.getElem_toArray, List.getElem_cons_zero, List.getElem_cons_succ]
    refine mix.D_take (i := 10) (v := ?_) rfl (by kernel_rfl) (by kernel_rfl) (fun _ _ _ h => h) (Or.inl ⟨by rfl, ?_⟩) hS0 ?_
    rotate_left
    · intro w' hSw
      have y0 := (hSw.cell (p := ⟨w.heap.size, 2, none⟩) l5 n5).trans z2
      have y1 := (hSw.cell (p := ⟨w.heap.size + 1, 1, none⟩) l6 n6).trans u1
      have y2 := (hSw.cell (p := ⟨w.heap.size + 1, 3, none⟩) l6 n6).trans u3
      try simp only [List.getElem_toArray, List.getElem_cons_zero, List.getElem_cons_succ]
      go_simp
      exact rfl
    try simp only [Act.put, List.setIfInBounds_toArray, List.set_cons_zero, List.set_cons_succ, List.getElem_toArray, List.getElem_cons_zero, List.getElem_cons_succ]
    refine mix.D_op (k := 8) rfl rfl (by kernel_rfl) (fun K' hK => ?_)
    simp only [List.getElem_toArray, List.getElem_cons_zero, List.getElem_cons_succ]
    refine op_lookS _ _ _ rfl rfl (own_block hSW ((hS1.block ms hlms))) rfl hn ?_
    have hs1 := Below.refl Wd.heap.size Wd
    have hb1 := hS0.seq hs1
    refine hK.out _ _ (fun _ => hb1) ?_
    clear hK K'
    try simp only [Act.put, List.setIfInBounds_toArray, List.set_cons_zero, List.set_cons_succ]
    refine mix.D_op (k := 11) rfl rfl (by kernel_rfl) (fun K' hK => ?_)
    simp only [List.getElem_toArray, List.getElem_cons_zero, List.getElem_cons_succ]
    refine wp_terms _ _ rfl (F := F) (H := F) (l := (atS es n).l) (m := l) ((at_own (n := n) (hSA.keep (R := fun _ => False) (Keep.of_below hS1) id (fun g hg => ⟨hfw g hg, id⟩) (fun g hg => ⟨hzw g hg, id⟩))).1) rfl (hR1.agree (Agree.of_below hS1 hfw)) (TLF.agree (Agree.of_below hS1 hfw) _ _ hL1) hlc rfl hall (fun g hg hF => (hfz g hF) ((at_own (n := n) hSA).2.1 g hg)) (fun g hg => Nat.lt_of_lt_of_le (hfw g hg) hS1.size) ?_
    intro v9 wb2 ho9 hk9 hat9
    have hb2 : Keep (fun g => (atS es n).v.ownBlock = some g) W wb2 := (Keep.of_below hS1).trans hk9 (fun g hg _ => hg)
    obtain ⟨A9, c9, xs9, rfl, hc9, _, _, _⟩ := ho9.rd
    refine hK.out _ _ (fun _ => hb2) ?_
    clear hK K'
    try simp only [Act.put, List.setIfInBounds_toArray, List.set_cons_zero, List.set_cons_succ]
    refine mix.D_op (k := 12) rfl rfl (by kernel_rfl) (fun K' hK => ?_)
    simp only [List.getElem_toArray, List.getElem_cons_zero, List.getElem_cons_succ]
    refine op_putS (e := ⟨n, (atS es n).l ++ l, A9, c9⟩) _ _ _ _ rfl rfl (own_block hSW (hb2.block ms hlms (fun e => hzms _ ((at_own (n := n) hSA).2.1 _ e) rfl))) hlen rfl hn rfl ?_
    intro w8 hS8 hg8
    refine hK.out _ _ (fun h => by simp at h) ?_
    clear hK K'
    refine mix.D_done (by kernel_rfl) ?_ _
    go_wp2_with fail
    go_ret
    exact wait_end h hS hbW hn hb2 ho9 (fun g hg => (hat9 g hg).imp id fun h => ⟨Nat.le_trans hS1.size h.1, h.2⟩) hS8 hg8

theorem getP_eq (K : List Int) (A : List (List UInt8)) (S : Wt) (k n : Int) (s : ByteArray) (l : List T) : getP K A S (.mk k n s l) = if k = 2 then (K, insD (bn s) A false, S, []) else if k = 3 then (putBy id K n, A, delBy p1 S n, atL S n)
    else if k = 4 then (if n ∈ K then (K, A, S, l) else (K, A, putBy p1 S (n, atL S n ++ l), [])) else if k = 5 then (K, A, S, l) else (K, A, S, []) := rfl
theorem b_eq {a b : Int} (h : a = b) : (a == b) = true := by simp [h]
theorem b_ne {a b : Int} (h : ¬ a = b) : (a == b) = false := by simp [h]
theorem GPost.lift {w W w' : World} {mk ma ms : Nat} {F Z : Nat → Prop} {r : List Int × List (List UInt8) × Wt × List T} {e : Ending} (h : GPost W mk ma ms F Z r e w') (hb : Below w.heap.size w W) : GPost w mk ma ms F Z r e w' := by
  obtain ⟨Q, c, ys, Z', h1, h2, h3, h4, h5, h6, h7⟩ := h
  exact ⟨Q, c, ys, Z', h1, h2, (Keep.of_below hb).trans h3 (fun g hg _ => hg), fun g hg => (h4 g hg).imp id (fun h => Nat.le_trans hb.size h), h5, h6, h7⟩

set_option maxRecDepth 100000 in
set_option maxHeartbeats 2000000 in
theorem get_ok (t : T) (B : Option Addr) (c : Nat) (mk ma ms : Nat) (F Z : Nat → Prop) (K : List Int) (A : List (List UInt8)) (S : Wt) (w : World) (h : LAt w mk ma ms F Z K A S) (hA : A.Pairwise (· < ·)) (hT : TF w F t (.slice B t.l.length c)) (hU : K.length < maxLen ∧ A.length < maxLen ∧ S.length < maxLen) (hcnt : sizeL (atL S t.n) + t.l.length ≤ 1000000) :
    Calls Try.prog 123 #[.agg #[.map (some mk), .map (some ma), .map (some ms)], .agg #[.int .i64 t.k, .int .u64 t.n, .string t.s, .slice B t.l.length c]] w (GPost w mk ma ms F Z (getP K A S t)) := by
  obtain ⟨k, n, s, l⟩ := t
  simp only [T.k, T.n, T.s, T.l] at hT hcnt ⊢
  have hTT := hT
  obtain ⟨B0, c0, xs, e0, _, hn, hs, hlc, hl56, hR, hL⟩ := hTT
  injection e0 with e1 _ e2
  subst e1; subst e2
  obtain ⟨hU1, hU2, hU3⟩ := hU
  rw [getP_eq]
  by_cases k2 : k = 2
  · rw [if_pos k2]
    subst k2
    have x0 := (Blk.new w 110 #[.map (some mk), .map (some ma), .map (some ms)]).alloc (.cells #[.int .i64 2, .int .u64 n, .string s, .slice B l.length c] 39)
    have x1 := Blk.new (w.alloc (.cells #[.map (some mk), .map (some ma), .map (some ms)] 110)) 39 #[.int .i64 2, .int .u64 n, .string s, .slice B l.length c]
    simp only [World.size_alloc] at x1
    have b1 : Below w.heap.size w ((w.alloc (.cells #[.map (some mk), .map (some ma), .map (some ms)] 110)).alloc (.cells #[.int .i64 2, .int .u64 n, .string s, .slice B l.length c] 39)) := ((Below.refl _ _).alloc (Nat.le_refl _) _).alloc (by simp) _
    have h1 := h.below b1
    have ha1 := h1.a
    go_enter Try.func123, Try.ntmps123
    go_wp2_with (first | (at_mapUpdate; refine wp_putT _ rfl _ _ _ rfl rfl ha1 hA hU2 rfl hs rfl ?_; intro w2 hT2 hg2) | go_in)
    go_ret
    have hkw := (Keep.of_below (S := fun g => g = ma) b1).trans (keep_grown hg2) (fun g hg _ => hg)
    refine nil_end ⟨own_block h1.k (hg2.block mk h1.lt.1 (fun e => h.ne.1 (by injection e))), hT2, ?_, h.ne, fun g hg => ⟨Nat.lt_of_lt_of_le (h.f g hg).1 hkw.size, (h.f g hg).2⟩, fun g hg => ⟨Nat.lt_of_lt_of_le (h.z g hg).1 hkw.size, (h.z g hg).2⟩⟩ hkw (fun g hg => .inr (.inl hg))
    obtain ⟨es, e1, e2⟩ := h.s
    exact ⟨es, e1, e2.keep hkw (fun e => h.ne.2.2 e.symm) (fun g hg => ⟨(h.f g hg).1, (h.f g hg).2.2.1⟩) (fun g hg => ⟨(h.z g hg).1, (h.z g hg).2.2.1⟩)⟩
  · rw [if_neg k2]
    have d2 := b_ne k2
    by_cases k3 : k = 3
    · rw [if_pos k3]
      subst k3
      have x0 := (Blk.new w 110 #[.map (some mk), .map (some ma), .map (some ms)]).alloc (.cells #[.int .i64 3, .int .u64 n, .string s, .slice B l.length c] 39)
      have x1 := Blk.new (w.alloc (.cells #[.map (some mk), .map (some ma), .map (some ms)] 110)) 39 #[.int .i64 3, .int .u64 n, .string s, .slice B l.length c]
      simp only [World.size_alloc] at x1
      have b1 : Below w.heap.size w ((w.alloc (.cells #[.map (some mk), .map (some ma), .map (some ms)] 110)).alloc (.cells #[.int .i64 3, .int .u64 n, .string s, .slice B l.length c] 39)) := ((Below.refl _ _).alloc (Nat.le_refl _) _).alloc (by simp) _
      have h1 := h.below b1
      clear d2
      go_enter Try.func123, Try.ntmps123
      go_wp2_with (go_at_call 157; refine (unlock_ok n mk ma ms F Z K A S _ h1 hn hU1).mono ?_; rintro e w2 hG; have hG2 := hG.lift b1; clear hG; obtain ⟨Q, c2, ys, Z', rfl, q1⟩ := hG2)
      go_ret
      exact ⟨Q, c2, ys, Z', rfl, q1⟩
    · rw [if_neg k3]
      have d3 := b_ne k3
      by_cases k4 : k = 4
      · rw [if_pos k4]
        subst k4
        have x0 := (Blk.new w 110 #[.map (some mk), .map (some ma), .map (some ms)]).alloc (.cells #[.int .i64 4, .int .u64 n, .string s, .slice B l.length c] 39)
        have x1 := Blk.new (w.alloc (.cells #[.map (some mk), .map (some ma), .map (some ms)] 110)) 39 #[.int .i64 4, .int .u64 n, .string s, .slice B l.length c]
        simp only [World.size_alloc] at x1
        have b1 : Below w.heap.size w ((w.alloc (.cells #[.map (some mk), .map (some ma), .map (some ms)] 110)).alloc (.cells #[.int .i64 4, .int .u64 n, .string s, .slice B l.length c] 39)) := ((Below.refl _ _).alloc (Nat.le_refl _) _).alloc (by simp) _
        have h1 := h.below b1
        clear d2 d3
        have hT1 := TF.agree (Agree.of_below b1 fun g hg => (h.f g hg).1) _ _ hT
        have ho := open_ok 4 n s l B c mk ma ms F Z K A S _ h1 hT1 hU3 hcnt
        generalize (if n ∈ K then (K, A, S, l) else (K, A, putBy p1 S (n, atL S n ++ l), [])) = r at ho ⊢
        go_enter Try.func123, Try.ntmps123
        go_wp2_with (go_at_call 158; refine ho.mono ?_; rintro e w2 hG; have hG2 := hG.lift b1; clear hG; obtain ⟨Q, c2, ys, Z', rfl, q1⟩ := hG2)
        go_ret
        exact ⟨Q, c2, ys, Z', rfl, q1⟩
      · rw [if_neg k4]
        have d4 := b_ne k4
        by_cases k5 : k = 5
        · rw [if_pos k5]
          subst k5
          have x0 := (Blk.new w 110 #[.map (some mk), .map (some ma), .map (some ms)]).alloc (.cells #[.int .i64 5, .int .u64 n, .string s, .slice B l.length c] 39)
          have x1 := Blk.new (w.alloc (.cells #[.map (some mk), .map (some ma), .map (some ms)] 110)) 39 #[.int .i64 5, .int .u64 n, .string s, .slice B l.length c]
          simp only [World.size_alloc] at x1
          have b1 : Below w.heap.size w ((w.alloc (.cells #[.map (some mk), .map (some ma), .map (some ms)] 110)).alloc (.cells #[.int .i64 5, .int .u64 n, .string s, .slice B l.length c] 39)) := ((Below.refl _ _).alloc (Nat.le_refl _) _).alloc (by simp) _
          have h1 := h.below b1
          clear d2 d3 d4
          go_enter Try.func123, Try.ntmps123
          go_wp2_with fail
          go_ret
          exact same_end h b1 hlc hR hL
        · rw [if_neg k5]
          have d5 := b_ne k5
          have x0 := (Blk.new w 110 #[.map (some mk), .map (some ma), .map (some ms)]).alloc (.cells #[.int .i64 k, .int .u64 n, .string s, .slice B l.length c] 39)
          have x1 := Blk.new (w.alloc (.cells #[.map (some mk), .map (some ma), .map (some ms)] 110)) 39 #[.int .i64 k, .int .u64 n, .string s, .slice B l.length c]
          simp only [World.size_alloc] at x1
          have b1 : Below w.heap.size w ((w.alloc (.cells #[.map (some mk), .map (some ma), .map (some ms)] 110)).alloc (.cells #[.int .i64 k, .int .u64 n, .string s, .slice B l.length c] 39)) := ((Below.refl _ _).alloc (Nat.le_refl _) _).alloc (by simp) _
          have h1 := h.below b1
          clear k2 k3 k4 k5
          go_enter Try.func123, Try.ntmps123
          go_wp2_with fail
          go_ret
          exact nil_end h1 (R := fun _ => False) (Keep.of_below b1) (fun g hg => hg.elim)

end Go.Proofs.Ytjlglfjikfpboaa.thiefs
