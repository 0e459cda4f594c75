/- The program's reader of terms: term at a box; all of it; Decode. -/
import Derived.Test.YtoenkkbcpafanaaA33
import Derived.Test.YtoenkkbcpafanaaA32
import Derived.WalkSpells


namespace Go.Proofs.Ytoenkkbcpafanaa.reads
set_option linter.unusedVariables false
set_option linter.unusedSimpArgs false
open Go.RowKit Go.Proofs.Ytoenkkbcpafanaa.base Go.Proofs.Ytoenkkbcpafanaa.tm Go.Proofs.Ytoenkkbcpafanaa.lies Go.Proofs.Ytoenkkbcpafanaa.rights Go.Proofs.Ytoenkkbcpafanaa.copies Go.Proofs.Ytoenkkbcpafanaa.built

set_option maxRecDepth 100000 in
set_option maxHeartbeats 400000 in
theorem term_boxbad (d : Nat) (hT : TermAt d) (hd12 : d < 12) (g b n : Nat) (s : ByteArray) (r : List UInt8) (x : Int) (w : World) (hR : Rdr w g s b) (hb : b < 4000) (hs : s.size ≤ maxLen) (hxd : x + 1 = 12 - (d : Int)) (hh : hd s.data.toList = .ok 4 n r) (hn : n < 18446744073709551616) (err : Int) (hm : many (readT d) 1 r (b + 1) = .bad err) :
    Calls Try.prog 313 #[.pointer (some ⟨g, 0, none⟩), .int .i64 x] w (TPost w g b (.bad err)) := by
  have hx : x < 12 := by omega
  have hx0 : 0 ≤ x := by omega
  have hgw := hR.lt
  have z0 := hR.cell 0
  have z1 := hR.cell 1
  have f0 := hR.frozen 0
  have f1 := hR.frozen 1
  simp at z0 z1
  have d0 : ((b : Int) == 4000) = false := by simp; omega
  have d1 : (x == 12) = false := by simp; omega
  have hR1 := rdr_next hR
  have hcall := fun wx (h : Rdr wx g s (b + 1)) => head_any g (b + 1) s wx h hs
  rw [hh] at hcall
  clear hh
  have hterms : ∀ (wx : World) (s' : ByteArray), Rdr wx g s' (b + 1) → s'.size ≤ maxLen → s'.data.toList = r → Calls Try.prog 322 #[.pointer (some ⟨g, 0, none⟩), .int .u64 1, .int .i64 (x + 1)] wx (MPost wx g (b + 1) (.bad err)) := fun wx s' hr hs' hsr => by
    have := terms_any d hT (by omega) g (b + 1) 1 s' (x + 1) wx hr (by omega) hs' hxd (by omega)
    rw [hsr, hm] at this
    exact this
  have HTm := Lib.hid hterms
  clear hterms hm hT hxd
  go_enter Try.func313, Try.ntmps313
  go_wp2_with (first
    | (go_at_call 320; refine (hcall _ (Blk.alloc hR1 _)).mono ?_; rintro e w' ⟨s', rfl, hr', hs', rfl⟩; have HR := lay hr'; clear hr'; have hR2 := Blk.alloc (Blk.alloc (rdr_rest (s' := s') hR1) (.cells #[.int .i64 0, .int .u64 0, .string ⟨#[]⟩, .slice none 0 0] 273)) (.cells #[.int .i64 4, .int .u64 (n : Int), .string ⟨#[]⟩, .slice none 0 0] 273))
    | (go_at_call 322; refine (HTm.out _ s' hR2 (by omega) HR.out).mono ?_; rintro e w3 ⟨hG, hne, s3, b3, hR3, rfl⟩; have HN := lay hne; clear hne; obtain ⟨hB0, hB1⟩ := two_blocks hG (by simpa using hgw); simp only [World.size_setCell] at hB0 hB1; have q0 := hB0.cell 0; have q1 := hB0.cell 1; have q2 := hB0.cell 2; have q3 := hB0.cell 3; have p0 := hB1.cell 0; have p1 := hB1.cell 1; have p2 := hB1.cell 2; have p3 := hB1.cell 3; simp at q0 q1 q2 q3 p0 p1 p2 p3; have fq0 := hB0.frozen 0; have fq1 := hB0.frozen 1; have fq2 := hB0.frozen 2; have fq3 := hB0.frozen 3; have fp3 := hB1.frozen 3))
  refine bodyPost_ret (v := .tuple #[.agg #[.int .i64 4, .int .u64 (n : Int), .string ⟨#[]⟩, .slice none 0 0], .int .i64 err]) (by simp [results, Try.results313, go_sem, q0, q1, q2, q3, p0, p1, p2, p3]) rfl ⟨?_, HN.out, s3, b3, 4, n, ⟨#[]⟩, none, 0, 0, ?_, rfl⟩
  · exact five_grown (list_grown hG) _ _ _ _ _
  · exact five_rdr hR3 hgw _ _ _ _ _

set_option maxRecDepth 100000 in
set_option maxHeartbeats 400000 in
theorem term_boxok (d : Nat) (hT : TermAt d) (hd12 : d < 12) (g b n : Nat) (s : ByteArray) (r : List UInt8) (x : Int) (w : World) (hR : Rdr w g s b) (hb : b < 4000) (hs : s.size ≤ maxLen) (hxd : x + 1 = 12 - (d : Int)) (hh : hd s.data.toList = .ok 4 n r) (hn : n < 18446744073709551616) (l : List T) (r2 : List UInt8) (b2 : Nat) (hm : many (readT d) 1 r (b + 1) = .ok l r2 b2) :
    Calls Try.prog 313 #[.pointer (some ⟨g, 0, none⟩), .int .i64 x] w (TPost w g b (.ok (.mk 4 n ⟨#[]⟩ l) r2 b2)) := by
  have hx : x < 12 := by omega
  have hx0 : 0 ≤ x := by omega
  have hgw := hR.lt
  have z0 := hR.cell 0
  have z1 := hR.cell 1
  have f0 := hR.frozen 0
  have f1 := hR.frozen 1
  simp at z0 z1
  have d0 : ((b : Int) == 4000) = false := by simp; omega
  have d1 : (x == 12) = false := by simp; omega
  have hR1 := rdr_next hR
  have hcall := fun wx (h : Rdr wx g s (b + 1)) => head_any g (b + 1) s wx h hs
  rw [hh] at hcall
  clear hh
  have hterms : ∀ (wx : World) (s' : ByteArray), Rdr wx g s' (b + 1) → s'.size ≤ maxLen → s'.data.toList = r → Calls Try.prog 322 #[.pointer (some ⟨g, 0, none⟩), .int .u64 1, .int .i64 (x + 1)] wx (MPost wx g (b + 1) (.ok l r2 b2)) := fun wx s' hr hs' hsr => by
    have := terms_any d hT (by omega) g (b + 1) 1 s' (x + 1) wx hr (by omega) hs' hxd (by omega)
    rw [hsr, hm] at this
    exact this
  have hF : Fits (.mk 4 n ⟨#[]⟩ l) := ⟨by show (-9223372036854775808 : Int) ≤ 4 ∧ (4 : Int) ≤ 9223372036854775807; omega, by show (0 : Int) ≤ (n : Int) ∧ (n : Int) < 18446744073709551616; omega, Nat.zero_le _⟩
  have HTm := Lib.hid hterms
  clear hterms hm hT hxd
  go_enter Try.func313, Try.ntmps313
  go_wp2_with (first
    | (go_at_call 320; refine (hcall _ (Blk.alloc hR1 _)).mono ?_; rintro e w' ⟨s', rfl, hr', hs', rfl⟩; have HR := lay hr'; clear hr'; have hR2 := Blk.alloc (Blk.alloc (rdr_rest (s' := s') hR1) (.cells #[.int .i64 0, .int .u64 0, .string ⟨#[]⟩, .slice none 0 0] 273)) (.cells #[.int .i64 4, .int .u64 (n : Int), .string ⟨#[]⟩, .slice none 0 0] 273))
    | (go_at_call 322; refine (HTm.out _ s' hR2 (by omega) HR.out).mono ?_; rintro e w3 ⟨hG, s3, A3, c3, hR3, hr3, hs3, hbb, hb4, rfl, hH⟩; have HR3 := lay hr3; clear hr3; obtain ⟨hB0, hB1⟩ := two_blocks hG (by simpa using hgw); simp only [World.size_setCell] at hB0 hB1; have q0 := hB0.cell 0; have q1 := hB0.cell 1; have q2 := hB0.cell 2; have q3 := hB0.cell 3; have p0 := hB1.cell 0; have p1 := hB1.cell 1; have p2 := hB1.cell 2; have p3 := hB1.cell 3; simp at q0 q1 q2 q3 p0 p1 p2 p3; have fq0 := hB0.frozen 0; have fq1 := hB0.frozen 1; have fq2 := hB0.frozen 2; have fq3 := hB0.frozen 3; have fp3 := hB1.frozen 3))
  refine bodyPost_ret (v := .tuple #[.agg #[.int .i64 4, .int .u64 (n : Int), .string ⟨#[]⟩, .slice A3 l.length c3], .int .i64 0]) (by simp [results, Try.results313, go_sem, q0, q1, q2, q3, p0, p1, p2, p3]) rfl ⟨?_, s3, A3, c3, ?_, HR3.out, hs3, by omega, hb4, rfl, ?_, hF⟩
  · exact five_grown (list_grown hG) _ _ _ _ _
  · exact five_rdr hR3 hgw _ _ _ _ _
  · exact five_held hH (by simp) _ _ _ _ _

theorem hd_ok {l r : List UInt8} {k n : Nat} (h : hd l = .ok k n r) : 1 ≤ k ∧ k ≤ 5 ∧ n < 18446744073709551616 := by
  cases l with
  | nil => simp [hd] at h
  | cons c q =>
    simp only [hd] at h
    split at h
    · cases h
    · split at h
      · cases h
      · rename_i hq
        injection h with e1 e2 e3
        subst e1 e2
        exact ⟨by omega, by omega, (getL_back hq).1⟩

theorem term_all (d : Nat) : TermAt d := by
  induction d with
  | zero =>
    intro g b s x w hR hb hs hx _
    obtain rfl : x = 12 := by simpa using hx
    unfold readT
    by_cases h : 4000 ≤ b
    · rw [if_pos h]; exact term_many g b s _ w hR (by omega)
    · rw [if_neg h]; exact term_deep g b s w hR (by omega)
  | succ d ih =>
    intro g b s x w hR hb hs hx hd12
    have hx12 : x < 12 := by omega
    have hxd : x + 1 = 12 - (d : Int) := by omega
    unfold readT
    by_cases h : 4000 ≤ b
    · rw [if_pos h]; exact term_many g b s _ w hR (by omega)
    · rw [if_neg h]
      cases hh : hd s.data.toList with
      | bad err => exact term_headbad g b s x err w hR (by omega) hs hx12 hh
      | ok k n r =>
        obtain ⟨hk1, hk5, hn⟩ := hd_ok hh
        simp only [body]
        by_cases h2 : k = 2
        · subst h2
          rw [if_pos rfl]
          by_cases c1 : 4000 < n
          · rw [if_pos c1]; exact term_atombad g b n s r x w hR (by omega) hs hx12 hh hn 25 (.inl ⟨c1, rfl⟩)
          · rw [if_neg c1]
            by_cases c2 : r.length < n
            · rw [if_pos c2]; exact term_atombad g b n s r x w hR (by omega) hs hx12 hh hn 20 (.inr ⟨c1, c2, rfl⟩)
            · rw [if_neg c2]; exact term_atomok g b n s r x w hR (by omega) hs hx12 hh hn c1 c2
        · rw [if_neg h2]
          by_cases h5 : k = 5
          · subst h5
            rw [if_pos rfl]
            cases hm : many (readT d) n r (b + 1) with
            | bad err => exact term_rowbad d ih (by omega) g b n s r x w hR (by omega) hs hxd hh hn err hm
            | ok l r2 b2 => exact term_rowok d ih (by omega) g b n s r x w hR (by omega) hs hxd hh hn l r2 b2 hm
          · rw [if_neg h5]
            by_cases h4 : k = 4
            · subst h4
              rw [if_pos rfl]
              cases hm : many (readT d) 1 r (b + 1) with
              | bad err => exact term_boxbad d ih (by omega) g b n s r x w hR (by omega) hs hxd hh hn err hm
              | ok l r2 b2 => exact term_boxok d ih (by omega) g b n s r x w hR (by omega) hs hxd hh hn l r2 b2 hm
            · rw [if_neg h4]
              exact term_num g b k n s r x w hR (by omega) hs hx12 hh (by omega) hn

theorem dec_below {w w2 : World} {o o' : Obj} (hG : ((w.alloc o).alloc o').grownBy w2 (some (w.heap.size + 1))) (a b c d : Value) (q : Obj) : Below w.heap.size w ((four w2 w.heap.size 0 a b c d).alloc q) := by
  have h : Below w.heap.size w w2 := (((Below.refl _ _).alloc (Nat.le_refl _) o).alloc (by simp) o').grown hG (by simp; omega) (fun k hk => by simp at hk; omega)
  exact (four_below h (Nat.le_refl _) a b c d).alloc (by rw [four_size]; exact h.size) q
theorem dec_lies {w w2 : World} {o o' : Obj} (hG : ((w.alloc o).alloc o').grownBy w2 (some (w.heap.size + 1))) {t : T} {v : Value} (hH : Held w2 ((w.alloc o).alloc o').heap.size w2.heap.size t.l v) (hF : Fits t) (a b c d : Value) (q : Obj) :
    Lies ((four w2 w.heap.size 0 a b c d).alloc q) ((four w2 w.heap.size 0 a b c d).alloc q).heap.size t v := by
  have hz := hG.size
  simp only [World.size_alloc] at hz
  refine Held.lies (lo := ((w.alloc o).alloc o').heap.size) (hi := w2.heap.size) (hH.move (Nat.le_refl _) (Nat.le_refl _) fun p p1 p2 => ?_) hF.1 hF.2.1 hF.2.2 (by rw [World.size_alloc, four_size]; omega)
  simp only [World.size_alloc] at p1
  rw [World.cell?_alloc_lt _ _ _ (by rw [four_size]; exact p2), four_cell _ _ _ _ _ _ _ _ (by omega)]

/-- what Decode leaves -/
def DPost (W : World) (r : Dec) (e : Ending) (w' : World) : Prop :=
  Below W.heap.size W w' ∧ match r with
  | .bad err => err ≠ 0 ∧ e = .returned (.tuple #[.agg #[.int .i64 0, .int .u64 0, .string ⟨#[]⟩, .slice none 0 0], .int .i64 err])
  | .ok t => ∃ (A : Option Addr) (c : Nat), e = .returned (.tuple #[.agg #[.int .i64 t.k, .int .u64 t.n, .string t.s, .slice A t.l.length c], .int .i64 0]) ∧ Lies w' w'.heap.size t (.slice A t.l.length c)

set_option maxRecDepth 100000 in
set_option maxHeartbeats 400000 in
theorem decode_any (s : ByteArray) (w : World) (hs : s.size ≤ maxLen) :
    Calls Try.prog 310 #[.string s] w (DPost w (tm.decode s.data.toList)) := by
  have hR : Rdr ((w.alloc (.cells #[.int .i64 0, .int .u64 0, .string ⟨#[]⟩, .slice none 0 0] 273)).alloc (.cells #[.string s, .int .i64 0] 389)) (w.heap.size + 1) s 0 := by
    have := Blk.new (w.alloc (.cells #[.int .i64 0, .int .u64 0, .string ⟨#[]⟩, .slice none 0 0] 273)) 389 #[.string s, .int .i64 0]
    simp only [World.size_alloc] at this
    exact this
  have hres := (Blk.new w 273 #[.int .i64 0, .int .u64 0, .string ⟨#[]⟩, .slice none 0 0]).alloc (.cells #[.string s, .int .i64 0] 389)
  have hcall := term_all 12 (w.heap.size + 1) 0 s 0 _ hR (by omega) hs (by omega) (Nat.le_refl _)
  cases hq : readT 12 s.data.toList 0 with
  | bad err =>
    have HD := lay (show tm.decode s.data.toList = .bad err by unfold tm.decode; rw [hq])
    rw [hq] at hcall
    rw [HD.out]
    clear hq
    go_enter Try.func310, Try.ntmps310
    go_wp2_with fail
    refine hcall.mono ?_
    rintro e w2 ⟨hG, hne, s2, b2, k2, n2, z2, A2, m2, c2, hR2, rfl⟩
    have d1 : (err == 0) = false := by simpa using hne
    have d2 : (err != 0) = true := by simpa using hne
    have HN := lay hne
    clear hne
    have hB0 : Blk w2 w.heap.size 273 #[.int .i64 0, .int .u64 0, .string ⟨#[]⟩, .slice none 0 0] := (hG.block _ hres.lt (by simp)).trans hres
    have q0 := hB0.cell 0
    have q1 := hB0.cell 1
    have q2 := hB0.cell 2
    have q3 := hB0.cell 3
    simp at q0 q1 q2 q3
    have fq0 := hB0.frozen 0
    have fq1 := hB0.frozen 1
    have fq2 := hB0.frozen 2
    have fq3 := hB0.frozen 3
    have v0 := hR2.cell 0
    simp at v0
    have hz2 : w.heap.size + 1 < w2.heap.size := by have := hG.size; simp at this; omega
    have hz3 : w.heap.size < w2.heap.size := by omega
    go_wp2_with fail
    refine bodyPost_ret (v := .tuple #[.agg #[.int .i64 0, .int .u64 0, .string ⟨#[]⟩, .slice none 0 0], .int .i64 err]) (by simp [results, Try.results310, go_sem, q0, q1, q2, q3, hz2, hz3]) rfl ?_
    exact ⟨dec_below hG _ _ _ _ _, HN.out, rfl⟩
  | ok t r b =>
    rw [hq] at hcall
    by_cases hr : r = []
    · have HD := lay (show tm.decode s.data.toList = .ok t by unfold tm.decode; rw [hq]; exact if_pos hr)
      rw [HD.out]
      clear hq
      go_enter Try.func310, Try.ntmps310
      go_wp2_with fail
      refine hcall.mono ?_
      rintro e w2 ⟨hG, s2, A2, c2, hR2, hr2, hs2, hbb, hb4, rfl, hH, hF⟩
      have e0 : s2.toList = [] := by rw [tm.toList_eq, hr2, hr]
      clear hr hr2
      have hB0 : Blk w2 w.heap.size 273 #[.int .i64 0, .int .u64 0, .string ⟨#[]⟩, .slice none 0 0] := (hG.block _ hres.lt (by simp)).trans hres
      have q0 := hB0.cell 0
      have q1 := hB0.cell 1
      have q2 := hB0.cell 2
      have q3 := hB0.cell 3
      simp at q0 q1 q2 q3
      have fq0 := hB0.frozen 0
      have fq1 := hB0.frozen 1
      have fq2 := hB0.frozen 2
      have fq3 := hB0.frozen 3
      have v0 := hR2.cell 0
      simp at v0
      have hz2 : w.heap.size + 1 < w2.heap.size := by have := hG.size; simp at this; omega
      have hz3 : w.heap.size < w2.heap.size := by omega
      go_wp2_with fail
      refine bodyPost_ret (v := .tuple #[.agg #[.int .i64 t.k, .int .u64 t.n, .string t.s, .slice A2 t.l.length c2], .int .i64 0]) (by simp [results, Try.results310, go_sem, q0, q1, q2, q3, hz2, hz3]) rfl ?_
      exact ⟨dec_below hG _ _ _ _ _, A2, c2, rfl, dec_lies hG hH hF _ _ _ _ _⟩
    · have HD := lay (show tm.decode s.data.toList = .bad 24 by unfold tm.decode; rw [hq]; exact if_neg hr)
      rw [HD.out]
      clear hq
      go_enter Try.func310, Try.ntmps310
      go_wp2_with fail
      refine hcall.mono ?_
      rintro e w2 ⟨hG, s2, A2, c2, hR2, hr2, hs2, hbb, hb4, rfl, hH, hF⟩
      have e0 : s2.toList.isEmpty = false := by rw [tm.toList_eq, hr2]; simpa using hr
      clear hr hr2
      have hB0 : Blk w2 w.heap.size 273 #[.int .i64 0, .int .u64 0, .string ⟨#[]⟩, .slice none 0 0] := (hG.block _ hres.lt (by simp)).trans hres
      have q0 := hB0.cell 0
      have q1 := hB0.cell 1
      have q2 := hB0.cell 2
      have q3 := hB0.cell 3
      simp at q0 q1 q2 q3
      have fq0 := hB0.frozen 0
      have fq1 := hB0.frozen 1
      have fq2 := hB0.frozen 2
      have fq3 := hB0.frozen 3
      have v0 := hR2.cell 0
      simp at v0
      have hz2 : w.heap.size + 1 < w2.heap.size := by have := hG.size; simp at this; omega
      have hz3 : w.heap.size < w2.heap.size := by omega
      go_wp2_with fail
      refine bodyPost_ret (v := .tuple #[.agg #[.int .i64 0, .int .u64 0, .string ⟨#[]⟩, .slice none 0 0], .int .i64 24]) (by simp [results, Try.results310, go_sem, q0, q1, q2, q3, hz2, hz3]) rfl ?_
      exact ⟨dec_below hG _ _ _ _ _, by decide, rfl⟩
end Go.Proofs.Ytoenkkbcpafanaa.reads

/- The document's own reader of terms: wrong, atom. -/

namespace Go.Proofs.Ytoenkkbcpafanaa.refReads
set_option linter.unusedVariables false
set_option linter.unusedSimpArgs false
open Go.RowKit Go.Proofs.Ytoenkkbcpafanaa.base Go.Proofs.Ytoenkkbcpafanaa.tm Go.Proofs.Ytoenkkbcpafanaa.lies Go.Proofs.Ytoenkkbcpafanaa.rights Go.Proofs.Ytoenkkbcpafanaa.copies Go.Proofs.Ytoenkkbcpafanaa.built Go.Proofs.Ytoenkkbcpafanaa.reads

theorem below_own {w w2 : World} {o o' : Obj} (hb : Below ((w.alloc o).alloc o').heap.size ((w.alloc o).alloc o') w2) : Below w.heap.size w w2 :=
  (((Below.refl _ _).alloc (Nat.le_refl _) o).alloc (by simp) o').trans (hb.mono (by simp; omega))
def seven (w : World) (g : Nat) (a b c d e f i : Value) : World := ((((((w.setCell ⟨g, 0, none⟩ a).setCell ⟨g, 1, none⟩ b).setCell ⟨g, 2, none⟩ c).setCell ⟨g, 3, none⟩ d).setCell ⟨g, 4, none⟩ e).setCell ⟨g, 5, none⟩ f).setCell ⟨g, 6, none⟩ i
theorem seven_below {w w1 : World} (h : Below w.heap.size w w1) (a b c d e f i : Value) : Below w.heap.size w (seven w1 (w.heap.size + 1) a b c d e f i) :=
  ((((((h.setCell (p := ⟨w.heap.size + 1, 0, none⟩) (Nat.le_succ _) a).setCell (p := ⟨w.heap.size + 1, 1, none⟩) (Nat.le_succ _) b).setCell (p := ⟨w.heap.size + 1, 2, none⟩) (Nat.le_succ _) c).setCell (p := ⟨w.heap.size + 1, 3, none⟩) (Nat.le_succ _) d).setCell (p := ⟨w.heap.size + 1, 4, none⟩) (Nat.le_succ _) e).setCell (p := ⟨w.heap.size + 1, 5, none⟩) (Nat.le_succ _) f).setCell (p := ⟨w.heap.size + 1, 6, none⟩) (Nat.le_succ _) i

/-- what was read, as a value -/
abbrev got (k n : Int) (z : ByteArray) (v : Value) (a b e : Int) : Value := .agg #[.int .i64 k, .int .u64 n, .string z, v, .int .i64 a, .int .i64 b, .int .i64 e]

end Go.Proofs.Ytoenkkbcpafanaa.refReads

/- The document's own reader of terms: more, given what read does. -/

namespace Go.Proofs.Ytoenkkbcpafanaa.refReads
set_option linter.unusedVariables false
set_option linter.unusedSimpArgs false
open Go.RowKit Go.Proofs.Ytoenkkbcpafanaa.base Go.Proofs.Ytoenkkbcpafanaa.tm Go.Proofs.Ytoenkkbcpafanaa.lies Go.Proofs.Ytoenkkbcpafanaa.rights Go.Proofs.Ytoenkkbcpafanaa.copies Go.Proofs.Ytoenkkbcpafanaa.built Go.Proofs.Ytoenkkbcpafanaa.reads

/-- what read leaves -/
def GPost (W : World) (s : ByteArray) (b : Nat) (r : Res T) (e : Ending) (w' : World) : Prop :=
  Below W.heap.size W w' ∧ match r with
  | .bad err => err ≠ 0 ∧ e = .returned (got 0 0 ⟨#[]⟩ (.slice none 0 0) 0 0 err)
  | .ok t r b' => ∃ (A : Option Addr) (c a' : Nat), e = .returned (got t.k t.n t.s (.slice A t.l.length c) (a' : Nat) (b' : Nat) 0) ∧ a' ≤ s.size ∧ s.data.toList.drop a' = r ∧ b < b' ∧ b' ≤ 4000 ∧ Held w' W.heap.size w'.heap.size t.l (.slice A t.l.length c) ∧ Fits t
/-- what more leaves -/
def NPost (W : World) (s : ByteArray) (k n : Int) (b : Nat) (r : Res (List T)) (e : Ending) (w' : World) : Prop :=
  Below W.heap.size W w' ∧ match r with
  | .bad err => err ≠ 0 ∧ e = .returned (got 0 0 ⟨#[]⟩ (.slice none 0 0) 0 0 err)
  | .ok l r b' => ∃ (A : Option Addr) (c a' : Nat), e = .returned (got k n ⟨#[]⟩ (.slice A l.length c) (a' : Nat) (b' : Nat) 0) ∧ a' ≤ s.size ∧ s.data.toList.drop a' = r ∧ b ≤ b' ∧ b' ≤ 4000 ∧ Held w' W.heap.size w'.heap.size l (.slice A l.length c)

theorem seven_cell (w : World) (g : Nat) (a b c d e f i : Value) (p : Addr) (h : p.block ≠ g) : (seven w g a b c d e f i).cell? p = w.cell? p := by
  unfold seven
  rw [World.cell?_setCell_other, World.cell?_setCell_other, World.cell?_setCell_other, World.cell?_setCell_other, World.cell?_setCell_other, World.cell?_setCell_other, World.cell?_setCell_other] <;> (rintro rfl; exact h rfl)

end Go.Proofs.Ytoenkkbcpafanaa.refReads

/- The document's own Copy. -/

namespace Go.Proofs.Ytoenkkbcpafanaa.copyT
set_option linter.unusedVariables false
set_option linter.unusedSimpArgs false
open Go.RowKit Go.Proofs.Ytoenkkbcpafanaa.base Go.Proofs.Ytoenkkbcpafanaa.tm Go.Proofs.Ytoenkkbcpafanaa.lies Go.Proofs.Ytoenkkbcpafanaa.rights Go.Proofs.Ytoenkkbcpafanaa.copies Go.Proofs.Ytoenkkbcpafanaa.built Go.Proofs.Ytoenkkbcpafanaa.refReads

/-- what Copy leaves -/
def CPost (W : World) (t : T) (e : Ending) (w' : World) : Prop :=
  Below W.heap.size W w' ∧ ∃ (A : Option Addr) (c : Nat), e = .returned (T.val t (.slice A t.l.length c)) ∧ Held w' W.heap.size w'.heap.size t.l (.slice A t.l.length c)

/-- at the loop's head -/
def CHead (W : World) (t : T) (i : Value) (wr : World) : Prop :=
  ∃ (j : Nat) (l : List T) (A : Option Addr) (c : Nat), i = .int .i64 j ∧ j ≤ t.l.length ∧ l = t.l.take j ∧ l.length = j ∧ Blk wr (W.heap.size + 1 + 1) 273 #[.int .i64 t.k, .int .u64 t.n, .string t.s, .slice A l.length c] ∧
    Blk wr (W.heap.size + 1) 273 #[.int .i64 0, .int .u64 0, .string ⟨#[]⟩, .slice none 0 0] ∧ Built (W.heap.size + 3) wr l (.slice A l.length c) ∧ Below W.heap.size W wr ∧ W.heap.size + 3 ≤ wr.heap.size

end Go.Proofs.Ytoenkkbcpafanaa.copyT
