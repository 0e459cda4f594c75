/- The program's reader of terms: term, by how deep it may go. -/
import Derived.Test.YtoenkkbcpafanaaA32


namespace Go.Proofs.Ytoenkkbcpafanaa.reads
set_option linter.unusedVariables false
set_option linter.unusedSimpArgs false
open Go.RowKit Go.Proofs.Ytoenkkbcpafanaa.base Go.Proofs.Ytoenkkbcpafanaa.tm Go.Proofs.Ytoenkkbcpafanaa.lies Go.Proofs.Ytoenkkbcpafanaa.rights Go.Proofs.Ytoenkkbcpafanaa.copies Go.Proofs.Ytoenkkbcpafanaa.built

theorem gs_set {w wr : World} {g : Nat} (h : w.grownBy wr (some g)) (p : Addr) (u : Value) (hp : p.block = g ∨ w.heap.size ≤ p.block) : w.grownBy (wr.setCell p u) (some g) :=
  ⟨h.os, h.tape, h.output, by simpa [World.setCell] using h.size, fun k hk hr => (Below.heap_setCell _ _ _ _ (fun e => by
    subst e
    rcases hp with hp | hp
    · exact hr (by rw [hp])
    · omega)).trans (h.block k hk hr)⟩
theorem rdr_next {w : World} {g b : Nat} {s : ByteArray} (h : Rdr w g s b) : Rdr (w.setCell ⟨g, 1, none⟩ (.int .i64 ((b : Int) + 1))) g s (b + 1) := by
  have := Blk.put h 1 (.int .i64 ((b : Int) + 1))
  exact this
theorem rdr_rest {w : World} {g b : Nat} {s s' : ByteArray} (h : Rdr w g s b) : Rdr (w.setCell ⟨g, 0, none⟩ (.string s')) g s' b := Blk.put h 0 (.string s')

theorem gs0 (w : World) (g : Nat) (u v : Value) : w.grownBy ((w.setCell ⟨g, 1, none⟩ u).setCell ⟨g, 0, none⟩ v) (some g) := gs_set (gs_set (World.grownBy.refl w _) _ _ (.inl rfl)) _ _ (.inl rfl)

set_option maxRecDepth 100000 in
set_option maxHeartbeats 400000 in
theorem term_many (g b : Nat) (s : ByteArray) (x : Int) (w : World) (hR : Rdr w g s b) (hb : b = 4000) :
    Calls Try.prog 313 #[.pointer (some ⟨g, 0, none⟩), .int .i64 x] w (TPost w g b (.bad 23)) := by
  subst hb
  have hgw := hR.lt
  have z0 := hR.cell 0
  have z1 := hR.cell 1
  have f0 := hR.frozen 0
  have f1 := hR.frozen 1
  simp at z0 z1
  go_enter Try.func313, Try.ntmps313
  go_wp2_with fail
  refine bodyPost_ret (v := .tuple #[.agg #[.int .i64 0, .int .u64 0, .string ⟨#[]⟩, .slice none 0 0], .int .i64 23]) (by simp [results, Try.results313, go_sem]) rfl ⟨?_, by decide, s, 4000, 0, 0, ⟨#[]⟩, none, 0, 0, ?_, rfl⟩
  · exact grown_alloc' (World.grownBy.refl w _) _
  · exact Blk.alloc hR _

set_option maxRecDepth 100000 in
set_option maxHeartbeats 400000 in
theorem term_deep (g b : Nat) (s : ByteArray) (w : World) (hR : Rdr w g s b) (hb : b < 4000) :
    Calls Try.prog 313 #[.pointer (some ⟨g, 0, none⟩), .int .i64 12] w (TPost w g b (.bad 22)) := by
  have hgw := hR.lt
  have z0 := hR.cell 0
  have z1 := hR.cell 1
  have f0 := hR.frozen 0
  have f1 := hR.frozen 1
  simp at z0 z1
  have d0 : ((b : Int) == 4000) = false := by simp; omega
  have hR1 := rdr_next hR
  go_enter Try.func313, Try.ntmps313
  go_wp2_with fail
  refine bodyPost_ret (v := .tuple #[.agg #[.int .i64 0, .int .u64 0, .string ⟨#[]⟩, .slice none 0 0], .int .i64 22]) (by simp [results, Try.results313, go_sem]) rfl ⟨?_, by decide, s, b + 1, 0, 0, ⟨#[]⟩, none, 0, 0, ?_, rfl⟩
  · exact grown_alloc' (gs_set (World.grownBy.refl w _) _ _ (.inl rfl)) _
  · exact Blk.alloc hR1 _

theorem hd_bad_ne {l : List UInt8} {e : Int} (h : hd l = .bad e) : e ≠ 0 := by
  cases l with
  | nil => simp [hd] at h; omega
  | cons k r =>
    simp only [hd] at h
    split at h
    · injection h with h; omega
    · split at h
      · rename_i hq
        injection h with h
        rw [← h]; exact getL_bad_ne hq
      · cases h

set_option maxRecDepth 100000 in
set_option maxHeartbeats 400000 in
theorem term_headbad (g b : Nat) (s : ByteArray) (x err : Int) (w : World) (hR : Rdr w g s b) (hb : b < 4000) (hs : s.size ≤ maxLen) (hx : x < 12) (hh : hd s.data.toList = .bad err) :
    Calls Try.prog 313 #[.pointer (some ⟨g, 0, none⟩), .int .i64 x] w (TPost w g b (.bad err)) := by
  have hgw := hR.lt
  have z0 := hR.cell 0
  have z1 := hR.cell 1
  have f0 := hR.frozen 0
  have f1 := hR.frozen 1
  simp at z0 z1
  have d0 : ((b : Int) == 4000) = false := by simp; omega
  have d1 : (x == 12) = false := by simp; omega
  have hR1 := rdr_next hR
  have hne := hd_bad_ne hh
  have d2 : (err != 0) = true := by simpa using hne
  have HN := lay hne
  have hcall := fun wx (h : Rdr wx g s (b + 1)) => head_any g (b + 1) s wx h hs
  rw [hh] at hcall
  clear hne hh
  go_enter Try.func313, Try.ntmps313
  go_wp2_with (go_at_call 320; refine (hcall _ (Blk.alloc hR1 _)).mono ?_; rintro e w' ⟨rfl, rfl⟩)
  refine bodyPost_ret (v := .tuple #[.agg #[.int .i64 0, .int .u64 0, .string ⟨#[]⟩, .slice none 0 0], .int .i64 err]) (by simp [results, Try.results313, go_sem]) rfl ⟨?_, HN.out, s, b + 1, 0, 0, ⟨#[]⟩, none, 0, 0, ?_, rfl⟩
  · exact grown_alloc' (gs_set (World.grownBy.refl w _) _ _ (.inl rfl)) _
  · exact Blk.alloc hR1 _

set_option maxRecDepth 100000 in
set_option maxHeartbeats 400000 in
theorem term_num (g b k n : Nat) (s : ByteArray) (r : List UInt8) (x : Int) (w : World) (hR : Rdr w g s b) (hb : b < 4000) (hs : s.size ≤ maxLen) (hx : x < 12) (hh : hd s.data.toList = .ok k n r) (hk : k = 1 ∨ k = 3) (hn : n < 18446744073709551616) :
    Calls Try.prog 313 #[.pointer (some ⟨g, 0, none⟩), .int .i64 x] w (TPost w g b (.ok (.mk k n ⟨#[]⟩ []) r (b + 1))) := by
  have hgw := hR.lt
  have z0 := hR.cell 0
  have z1 := hR.cell 1
  have f0 := hR.frozen 0
  have f1 := hR.frozen 1
  simp at z0 z1
  have d0 : ((b : Int) == 4000) = false := by simp; omega
  have d1 : (x == 12) = false := by simp; omega
  have hR1 := rdr_next hR
  have k2 : ((k : Int) == 2) = false := by simp; omega
  have k4 : ((k : Int) == 4) = false := by simp; omega
  have k5 : ((k : Int) == 5) = false := by simp; omega
  have hF : Fits (.mk k n ⟨#[]⟩ []) := ⟨by show (-9223372036854775808 : Int) ≤ (k : Int) ∧ (k : Int) ≤ 9223372036854775807; omega, by show (0 : Int) ≤ (n : Int) ∧ (n : Int) < 18446744073709551616; omega, Nat.zero_le _⟩
  have HK := lay hk
  have hcall := fun wx (h : Rdr wx g s (b + 1)) => head_any g (b + 1) s wx h hs
  rw [hh] at hcall
  clear hh hk
  go_enter Try.func313, Try.ntmps313
  go_wp2_with (go_at_call 320; refine (hcall _ (Blk.alloc hR1 _)).mono ?_; rintro e w' ⟨s', rfl, hr', hs', rfl⟩; have HR := lay hr'; clear hr')
  refine bodyPost_ret (v := .tuple #[.agg #[.int .i64 k, .int .u64 n, .string ⟨#[]⟩, .slice none 0 0], .int .i64 0]) (by simp [results, Try.results313, go_sem]) rfl ⟨?_, s', none, 0, ?_, HR.out, by omega, by omega, by omega, rfl, Held.nil _ _ _, hF⟩
  · exact grown_alloc' (grown_alloc' (gs0 w g _ _) _) _
  · exact Blk.alloc (Blk.alloc (rdr_rest hR1) _) _

theorem atom_err {s' : ByteArray} {r : List UInt8} {n : Nat} {err : Int} {e : Ending} {w w' : World} {P : Prop} (hp : (4000 < n → e = .returned (.tuple #[.string ⟨#[]⟩, .int .i64 25]) ∧ w = w') ∧ (¬ 4000 < n → s'.data.toList.length < n → e = .returned (.tuple #[.string ⟨#[]⟩, .int .i64 20]) ∧ w = w') ∧ P)
    (hr : s'.data.toList = r) (he : (4000 < n ∧ err = 25) ∨ (¬ 4000 < n ∧ r.length < n ∧ err = 20)) : e = .returned (.tuple #[.string ⟨#[]⟩, .int .i64 err]) ∧ w = w' := by
  rcases he with ⟨h1, rfl⟩ | ⟨h1, h2, rfl⟩
  · exact hp.1 h1
  · exact hp.2.1 h1 (by rw [hr]; exact h2)

set_option maxRecDepth 100000 in
set_option maxHeartbeats 400000 in
theorem term_atombad (g b n : Nat) (s : ByteArray) (r : List UInt8) (x : Int) (w : World) (hR : Rdr w g s b) (hb : b < 4000) (hs : s.size ≤ maxLen) (hx : x < 12) (hh : hd s.data.toList = .ok 2 n r) (hn : n < 18446744073709551616) (err : Int) (he : (4000 < n ∧ err = 25) ∨ (¬ 4000 < n ∧ r.length < n ∧ err = 20)) :
    Calls Try.prog 313 #[.pointer (some ⟨g, 0, none⟩), .int .i64 x] w (TPost w g b (.bad err)) := by
  have hgw := hR.lt
  have z0 := hR.cell 0
  have z1 := hR.cell 1
  have f0 := hR.frozen 0
  have f1 := hR.frozen 1
  simp at z0 z1
  have d0 : ((b : Int) == 4000) = false := by simp; omega
  have d1 : (x == 12) = false := by simp; omega
  have hR1 := rdr_next hR
  have hcall := fun wx (h : Rdr wx g s (b + 1)) => head_any g (b + 1) s wx h hs
  rw [hh] at hcall
  clear hh
  have hne : err ≠ 0 := by omega
  have HN := lay hne
  have HA := lay he
  clear hne he
  go_enter Try.func313, Try.ntmps313
  go_wp2_with (first
    | (go_at_call 320; refine (hcall _ (Blk.alloc hR1 _)).mono ?_; rintro e w' ⟨s', rfl, hr', hs', rfl⟩; have HR := lay hr'; clear hr'; have hR2 := Blk.alloc (Blk.alloc (rdr_rest (s' := s') hR1) (.cells #[.int .i64 0, .int .u64 0, .string ⟨#[]⟩, .slice none 0 0] 273)) (.cells #[.int .i64 2, .int .u64 0, .string ⟨#[]⟩, .slice none 0 0] 273))
    | (go_at_call 321; refine (atom_any g (b + 1) n s' _ hR2 (by omega) hn).mono ?_; rintro e w' hp; obtain ⟨rfl, rfl⟩ := atom_err hp HR.out HA.out))
  refine bodyPost_ret (v := .tuple #[.agg #[.int .i64 2, .int .u64 0, .string ⟨#[]⟩, .slice none 0 0], .int .i64 err]) (by simp [results, Try.results313, go_sem]) rfl ⟨?_, HN.out, s', b + 1, 2, 0, ⟨#[]⟩, none, 0, 0, ?_, rfl⟩
  · exact grown_alloc' (grown_alloc' (gs0 w g _ _) _) _
  · exact Blk.alloc (Blk.alloc (rdr_rest hR1) _) _

set_option maxRecDepth 100000 in
set_option maxHeartbeats 400000 in
theorem term_atomok (g b n : Nat) (s : ByteArray) (r : List UInt8) (x : Int) (w : World) (hR : Rdr w g s b) (hb : b < 4000) (hs : s.size ≤ maxLen) (hx : x < 12) (hh : hd s.data.toList = .ok 2 n r) (hn : n < 18446744073709551616) (h1 : ¬ 4000 < n) (h2 : ¬ r.length < n) :
    Calls Try.prog 313 #[.pointer (some ⟨g, 0, none⟩), .int .i64 x] w (TPost w g b (.ok (.mk 2 0 ⟨(r.take n).toArray⟩ []) (r.drop n) (b + 1))) := by
  have hgw := hR.lt
  have z0 := hR.cell 0
  have z1 := hR.cell 1
  have f0 := hR.frozen 0
  have f1 := hR.frozen 1
  simp at z0 z1
  have d0 : ((b : Int) == 4000) = false := by simp; omega
  have d1 : (x == 12) = false := by simp; omega
  have hR1 := rdr_next hR
  have hcall := fun wx (h : Rdr wx g s (b + 1)) => head_any g (b + 1) s wx h hs
  rw [hh] at hcall
  clear hh
  have hF : Fits (.mk 2 0 ⟨(r.take n).toArray⟩ []) := ⟨by show (-9223372036854775808 : Int) ≤ 2 ∧ (2 : Int) ≤ 9223372036854775807; omega, by show (0 : Int) ≤ 0 ∧ (0 : Int) < 18446744073709551616; omega, by show (r.take n).length ≤ maxLen; rw [List.length_take]; unfold maxLen; omega⟩
  have H1 := lay h1
  have H2 := lay h2
  clear h1 h2
  go_enter Try.func313, Try.ntmps313
  go_wp2_with (first
    | (go_at_call 320; refine (hcall _ (Blk.alloc hR1 _)).mono ?_; rintro e w' ⟨s', rfl, hr', hs', rfl⟩; have HR := lay hr'; clear hr'; have hR2 := Blk.alloc (Blk.alloc (rdr_rest (s' := s') hR1) (.cells #[.int .i64 0, .int .u64 0, .string ⟨#[]⟩, .slice none 0 0] 273)) (.cells #[.int .i64 2, .int .u64 0, .string ⟨#[]⟩, .slice none 0 0] 273))
    | (go_at_call 321; refine (atom_any g (b + 1) n s' _ hR2 (by omega) hn).mono ?_; rintro e w' hp; obtain ⟨s2, rfl, hr2, hs2, rfl⟩ := hp.2.2 H1.out (by rw [HR.out]; exact H2.out); have HR2 := lay hr2; clear hr2; have HRT := lay (congrArg (fun l : List UInt8 => (⟨(l.take n).toArray⟩ : ByteArray)) HR.out)))
  refine bodyPost_ret (v := .tuple #[.agg #[.int .i64 2, .int .u64 0, .string ⟨(s'.data.toList.take n).toArray⟩, .slice none 0 0], .int .i64 0]) (by simp [results, Try.results313, go_sem]) rfl ⟨?_, s2, none, 0, ?_, by rw [HR2.out, HR.out], by omega, by omega, by omega, by rw [HR.out]; rfl, Held.nil _ _ _, hF⟩
  · exact grown_alloc' (grown_alloc' (gs_set (gs0 w g _ _) _ _ (.inl rfl)) _) _
  · exact Blk.alloc (Blk.alloc (rdr_rest (rdr_rest hR1)) _) _

end Go.Proofs.Ytoenkkbcpafanaa.reads

/- The program's reader of terms: term at a row and a box. -/

namespace Go.Proofs.Ytoenkkbcpafanaa.reads
set_option linter.unusedVariables false
set_option linter.unusedSimpArgs false
open Go.RowKit Go.Proofs.Ytoenkkbcpafanaa.base Go.Proofs.Ytoenkkbcpafanaa.tm Go.Proofs.Ytoenkkbcpafanaa.lies Go.Proofs.Ytoenkkbcpafanaa.rights Go.Proofs.Ytoenkkbcpafanaa.copies Go.Proofs.Ytoenkkbcpafanaa.built

theorem two_blocks {W w3 : World} {a c : Array Value} {t t' : TypeId} {g : Nat} (h : ((W.alloc (.cells a t)).alloc (.cells c t')).grownBy w3 (some g)) (hg : g < W.heap.size) : Blk w3 W.heap.size t a ∧ Blk w3 (W.heap.size + 1) t' c := by
  have h0 := (Blk.new W t a).alloc (.cells c t')
  have h1 := Blk.new (W.alloc (.cells a t)) t' c
  simp only [World.size_alloc] at h1
  exact ⟨(h.block _ h0.lt (by simp; omega)).trans h0, (h.block _ h1.lt (by simp; omega)).trans h1⟩

theorem five_grown {w w3 : World} {g : Nat} (h : w.grownBy w3 (some g)) (v a b c d : Value) : w.grownBy (four (w3.setCell ⟨w.heap.size + 1, 3, none⟩ v) w.heap.size 0 a b c d) (some g) :=
  gs_set (gs_set (gs_set (gs_set (gs_set h _ _ (.inr (Nat.le_succ _))) _ _ (.inr (Nat.le_refl _))) _ _ (.inr (Nat.le_refl _))) _ _ (.inr (Nat.le_refl _))) _ _ (.inr (Nat.le_refl _))
theorem five_rdr {w3 : World} {N g b' : Nat} {s' : ByteArray} (h : Rdr w3 g s' b') (hg : g < N) (v a b c d : Value) : Rdr (four (w3.setCell ⟨N + 1, 3, none⟩ v) N 0 a b c d) g s' b' := by
  have h1 := Blk.far h (p := ⟨N + 1, 3, none⟩) (by show g ≠ N + 1; omega) v
  have h2 := Blk.far h1 (p := ⟨N, 0, none⟩) (by show g ≠ N; omega) a
  have h3 := Blk.far h2 (p := ⟨N, 0 + 1, none⟩) (by show g ≠ N; omega) b
  have h4 := Blk.far h3 (p := ⟨N, 0 + 2, none⟩) (by show g ≠ N; omega) c
  exact Blk.far h4 (p := ⟨N, 0 + 3, none⟩) (by show g ≠ N; omega) d
theorem five_held {w3 : World} {N lo : Nat} {l : List T} {u : Value} (h : Held w3 lo w3.heap.size l u) (hlo : N + 2 ≤ lo) (v a b c d : Value) : Held (four (w3.setCell ⟨N + 1, 3, none⟩ v) N 0 a b c d) N (four (w3.setCell ⟨N + 1, 3, none⟩ v) N 0 a b c d).heap.size l u := by
  refine h.move (by omega) (by rw [four_size, World.size_setCell]; exact Nat.le_refl _) fun p p1 p2 => ?_
  rw [four_cell _ _ _ _ _ _ _ _ (by omega)]
  exact World.cell?_setCell_other _ _ _ _ (by rintro rfl; simp at p1; omega)
theorem list_grown {w w3 : World} {g : Nat} {u v : Value} {o o' : Obj} (h : ((((w.setCell ⟨g, 1, none⟩ u).setCell ⟨g, 0, none⟩ v).alloc o).alloc o').grownBy w3 (some g)) : w.grownBy w3 (some g) :=
  grown_trans (grown_alloc' (grown_alloc' (gs0 w g u v) o) o') h

set_option maxRecDepth 100000 in
set_option maxHeartbeats 400000 in
theorem term_rowbad (d : Nat) (hT : TermAt d) (hd12 : d < 12) (g b n : Nat) (s : ByteArray) (r : List UInt8) (x : Int) (w : World) (hR : Rdr w g s b) (hb : b < 4000) (hs : s.size ≤ maxLen) (hxd : x + 1 = 12 - (d : Int)) (hh : hd s.data.toList = .ok 5 n r) (hn : n < 18446744073709551616) (err : Int) (hm : many (readT d) n r (b + 1) = .bad err) :
    Calls Try.prog 313 #[.pointer (some ⟨g, 0, none⟩), .int .i64 x] w (TPost w g b (.bad err)) := by
  have hx : x < 12 := by omega
  have hx0 : 0 ≤ x := by omega
  have hgw := hR.lt
  have z0 := hR.cell 0
  have z1 := hR.cell 1
  have f0 := hR.frozen 0
  have f1 := hR.frozen 1
  simp at z0 z1
  have d0 : ((b : Int) == 4000) = false := by simp; omega
  have d1 : (x == 12) = false := by simp; omega
  have hR1 := rdr_next hR
  have hcall := fun wx (h : Rdr wx g s (b + 1)) => head_any g (b + 1) s wx h hs
  rw [hh] at hcall
  clear hh
  have hterms : ∀ (wx : World) (s' : ByteArray), Rdr wx g s' (b + 1) → s'.size ≤ maxLen → s'.data.toList = r → Calls Try.prog 322 #[.pointer (some ⟨g, 0, none⟩), .int .u64 (n : Int), .int .i64 (x + 1)] wx (MPost wx g (b + 1) (.bad err)) := fun wx s' hr hs' hsr => by
    have := terms_any d hT (by omega) g (b + 1) n s' (x + 1) wx hr (by omega) hs' hxd (by omega)
    rw [hsr, hm] at this
    exact this
  have HTm := Lib.hid hterms
  clear hterms hm hT hxd
  go_enter Try.func313, Try.ntmps313
  go_wp2_with (first
    | (go_at_call 320; refine (hcall _ (Blk.alloc hR1 _)).mono ?_; rintro e w' ⟨s', rfl, hr', hs', rfl⟩; have HR := lay hr'; clear hr'; have hR2 := Blk.alloc (Blk.alloc (rdr_rest (s' := s') hR1) (.cells #[.int .i64 0, .int .u64 0, .string ⟨#[]⟩, .slice none 0 0] 273)) (.cells #[.int .i64 5, .int .u64 0, .string ⟨#[]⟩, .slice none 0 0] 273))
    | (go_at_call 322; refine (HTm.out _ s' hR2 (by omega) HR.out).mono ?_; rintro e w3 ⟨hG, hne, s3, b3, hR3, rfl⟩; have HN := lay hne; clear hne; obtain ⟨hB0, hB1⟩ := two_blocks hG (by simpa using hgw); simp only [World.size_setCell] at hB0 hB1; have q0 := hB0.cell 0; have q1 := hB0.cell 1; have q2 := hB0.cell 2; have q3 := hB0.cell 3; have p0 := hB1.cell 0; have p1 := hB1.cell 1; have p2 := hB1.cell 2; have p3 := hB1.cell 3; simp at q0 q1 q2 q3 p0 p1 p2 p3; have fq0 := hB0.frozen 0; have fq1 := hB0.frozen 1; have fq2 := hB0.frozen 2; have fq3 := hB0.frozen 3; have fp3 := hB1.frozen 3))
  refine bodyPost_ret (v := .tuple #[.agg #[.int .i64 5, .int .u64 0, .string ⟨#[]⟩, .slice none 0 0], .int .i64 err]) (by simp [results, Try.results313, go_sem, q0, q1, q2, q3, p0, p1, p2, p3]) rfl ⟨?_, HN.out, s3, b3, 5, 0, ⟨#[]⟩, none, 0, 0, ?_, rfl⟩
  · exact five_grown (list_grown hG) _ _ _ _ _
  · exact five_rdr hR3 hgw _ _ _ _ _

set_option maxRecDepth 100000 in
set_option maxHeartbeats 400000 in
theorem term_rowok (d : Nat) (hT : TermAt d) (hd12 : d < 12) (g b n : Nat) (s : ByteArray) (r : List UInt8) (x : Int) (w : World) (hR : Rdr w g s b) (hb : b < 4000) (hs : s.size ≤ maxLen) (hxd : x + 1 = 12 - (d : Int)) (hh : hd s.data.toList = .ok 5 n r) (hn : n < 18446744073709551616) (l : List T) (r2 : List UInt8) (b2 : Nat) (hm : many (readT d) n r (b + 1) = .ok l r2 b2) :
    Calls Try.prog 313 #[.pointer (some ⟨g, 0, none⟩), .int .i64 x] w (TPost w g b (.ok (.mk 5 0 ⟨#[]⟩ l) r2 b2)) := by
  have hx : x < 12 := by omega
  have hx0 : 0 ≤ x := by omega
  have hgw := hR.lt
  have z0 := hR.cell 0
  have z1 := hR.cell 1
  have f0 := hR.frozen 0
  have f1 := hR.frozen 1
  simp at z0 z1
  have d0 : ((b : Int) == 4000) = false := by simp; omega
  have d1 : (x == 12) = false := by simp; omega
  have hR1 := rdr_next hR
  have hcall := fun wx (h : Rdr wx g s (b + 1)) => head_any g (b + 1) s wx h hs
  rw [hh] at hcall
  clear hh
  have hterms : ∀ (wx : World) (s' : ByteArray), Rdr wx g s' (b + 1) → s'.size ≤ maxLen → s'.data.toList = r → Calls Try.prog 322 #[.pointer (some ⟨g, 0, none⟩), .int .u64 (n : Int), .int .i64 (x + 1)] wx (MPost wx g (b + 1) (.ok l r2 b2)) := fun wx s' hr hs' hsr => by
    have := terms_any d hT (by omega) g (b + 1) n s' (x + 1) wx hr (by omega) hs' hxd (by omega)
    rw [hsr, hm] at this
    exact this
  have hF : Fits (.mk 5 0 ⟨#[]⟩ l) := ⟨by show (-9223372036854775808 : Int) ≤ 5 ∧ (5 : Int) ≤ 9223372036854775807; omega, by show (0 : Int) ≤ 0 ∧ (0 : Int) < 18446744073709551616; omega, Nat.zero_le _⟩
  have HTm := Lib.hid hterms
  clear hterms hm hT hxd
  go_enter Try.func313, Try.ntmps313
  go_wp2_with (first
    | (go_at_call 320; refine (hcall _ (Blk.alloc hR1 _)).mono ?_; rintro e w' ⟨s', rfl, hr', hs', rfl⟩; have HR := lay hr'; clear hr'; have hR2 := Blk.alloc (Blk.alloc (rdr_rest (s' := s') hR1) (.cells #[.int .i64 0, .int .u64 0, .string ⟨#[]⟩, .slice none 0 0] 273)) (.cells #[.int .i64 5, .int .u64 0, .string ⟨#[]⟩, .slice none 0 0] 273))
    | (go_at_call 322; refine (HTm.out _ s' hR2 (by omega) HR.out).mono ?_; rintro e w3 ⟨hG, s3, A3, c3, hR3, hr3, hs3, hbb, hb4, rfl, hH⟩; have HR3 := lay hr3; clear hr3; obtain ⟨hB0, hB1⟩ := two_blocks hG (by simpa using hgw); simp only [World.size_setCell] at hB0 hB1; have q0 := hB0.cell 0; have q1 := hB0.cell 1; have q2 := hB0.cell 2; have q3 := hB0.cell 3; have p0 := hB1.cell 0; have p1 := hB1.cell 1; have p2 := hB1.cell 2; have p3 := hB1.cell 3; simp at q0 q1 q2 q3 p0 p1 p2 p3; have fq0 := hB0.frozen 0; have fq1 := hB0.frozen 1; have fq2 := hB0.frozen 2; have fq3 := hB0.frozen 3; have fp3 := hB1.frozen 3))
  refine bodyPost_ret (v := .tuple #[.agg #[.int .i64 5, .int .u64 0, .string ⟨#[]⟩, .slice A3 l.length c3], .int .i64 0]) (by simp [results, Try.results313, go_sem, q0, q1, q2, q3, p0, p1, p2, p3]) rfl ⟨?_, s3, A3, c3, ?_, HR3.out, hs3, by omega, hb4, rfl, ?_, hF⟩
  · exact five_grown (list_grown hG) _ _ _ _ _
  · exact five_rdr hR3 hgw _ _ _ _ _
  · exact five_held hH (by simp) _ _ _ _ _

end Go.Proofs.Ytoenkkbcpafanaa.reads
