/- The walk of the law BoxSeals: it answers true and writes nothing that was there. -/
import Derived.Test.YtgdmhfdlijeogaaBoxP
import Derived.Test.YtgdmhfdlijeogaaTermF


namespace Go.Proofs.Ytgdmhfdlijeogaa.boxes
set_option linter.unusedVariables false
set_option linter.unusedSimpArgs false
open Go.RowKit Go.Proofs.Ytgdmhfdlijeogaa.base Go.Proofs.Ytgdmhfdlijeogaa.tm Go.Proofs.Ytgdmhfdlijeogaa.lies Go.Proofs.Ytgdmhfdlijeogaa.rights Go.Proofs.Ytgdmhfdlijeogaa.encs Go.Proofs.Ytgdmhfdlijeogaa.copies Go.Proofs.Ytgdmhfdlijeogaa.makes Go.Proofs.Ytgdmhfdlijeogaa.reads Go.Proofs.Ytgdmhfdlijeogaa.likes

/-- the cells of a term's variable -/
abbrev cs (t : T) (A : Option Addr) (c : Nat) : Obj := .cells #[.int .i64 t.k, .int .u64 t.n, .string t.s, .slice A t.l.length c] 25
theorem one_step {w w1 w2 : World} (hb : Below w.heap.size w w1) (o : Obj) (h2 : Below (w1.heap.size + 1) (w1.alloc o) w2) : Below w.heap.size w w2 :=
  (hb.alloc hb.size o).trans (h2.mono (by have := hb.size; omega))

set_option maxRecDepth 100000 in
set_option maxHeartbeats 800000 in
theorem law_seals (k : Int) (t : T) (v : Value) (w : World) (hkk : 0 ≤ k ∧ k < 18446744073709551616) (hL : Lies w w.heap.size t v) :
    Calls Try.prog 3 #[.int .u64 k, T.val t v] w fun e w' => e = .returned (.bool true) ∧ Below w.heap.size w w' := by
  obtain ⟨A, c, xs, rfl, hk, hn, hs, hlc, hc, hr, hl⟩ := hL.open_
  have hL1 := hL.later (Nat.le_refl _) (cs t A c)
  have h1 := fun wx (hx : Lies wx wx.heap.size t (.slice A t.l.length c)) => seal_any k t _ wx hkk hx
  have h2 := fun wx (hx : Lies wx wx.heap.size t (.slice A t.l.length c)) => refSeal_any k t _ wx hkk hx
  have h3 := fun wx (hx : Lies wx wx.heap.size t (.slice A t.l.length c)) => open_any k t _ wx hx
  have h4 := fun wx (hx : Lies wx wx.heap.size t (.slice A t.l.length c)) => refOpen_any k t _ wx hx
  generalize sealT k t = r at h1 h2
  generalize openT k t = q at h3 h4
  have k0 := Blk.new w 25 #[.int .i64 t.k, .int .u64 t.n, .string t.s, .slice A t.l.length c]
  go_enter Try.func3, Try.ntmps3
  go_wp2_with fail
  refine (h1 _ hL1).mono ?_
  rintro e w1 ⟨hb1, A1, c1, rfl, hH1, hF1⟩
  have hz1 := hb1.size
  simp only [World.size_alloc] at hb1 hz1
  have g1 : w.heap.size < w1.heap.size := by omega
  have hB1 := one_step (Below.refl _ _) _ hb1
  have a1 := hH1.lies hF1.1 hF1.2.1 hF1.2.2 (Nat.le_refl _)
  have L1 := (hL1.below (hb1.mono (by simp))).now (by simp; omega)
  have k1 := k0.below hb1 (by omega)
  have y0 := k1.cell 0
  have y1 := k1.cell 1
  have y2 := k1.cell 2
  have y3 := k1.cell 3
  simp at y0 y1 y2 y3
  go_wp2_with fail
  refine (h2 _ (L1.later (Nat.le_refl _) (cs r.1 A1 c1))).mono ?_
  rintro e w2 ⟨hb2, A2, c2, rfl, hH2, hF2⟩
  have hz2 := hb2.size
  simp only [World.size_alloc] at hb2 hz2
  have g2 : w.heap.size < w2.heap.size := by omega
  have g3 : w1.heap.size < w2.heap.size := by omega
  have hB2 := one_step hB1 _ hb2
  have a2 := hH2.lies hF2.1 hF2.2.1 hF2.2.2 (Nat.le_refl _)
  have ka := (Blk.new w1 25 #[.int .i64 r.1.k, .int .u64 r.1.n, .string r.1.s, .slice A1 r.1.l.length c1]).below hb2 (by omega)
  have k2 := (k1.alloc (cs r.1 A1 c1)).below hb2 (by omega)
  have L2 := ((L1.later (Nat.le_refl _) (cs r.1 A1 c1)).below (hb2.mono (by simp))).now (by simp; omega)
  have b1 := ((a1.later (Nat.le_refl _) (cs r.1 A1 c1)).below (hb2.mono (by simp))).now (by simp; omega)
  clear y0 y1 y2 y3
  have y0 := k2.cell 0
  have y1 := k2.cell 1
  have y2 := k2.cell 2
  have y3 := k2.cell 3
  simp at y0 y1 y2 y3
  go_wp2_with fail
  refine (h3 _ (L2.later (Nat.le_refl _) (cs r.1 A2 c2))).mono ?_
  rintro e w3 ⟨hb3, A3, c3, rfl, hH3, hF3⟩
  have hz3 := hb3.size
  simp only [World.size_alloc] at hb3 hz3
  have g4 : w.heap.size < w3.heap.size := by omega
  have g5 : w1.heap.size < w3.heap.size := by omega
  have g6 : w2.heap.size < w3.heap.size := by omega
  have hB3 := one_step hB2 _ hb3
  have a3 := hH3.lies hF3.1 hF3.2.1 hF3.2.2 (Nat.le_refl _)
  have kb := (Blk.new w2 25 #[.int .i64 r.1.k, .int .u64 r.1.n, .string r.1.s, .slice A2 r.1.l.length c2]).below hb3 (by omega)
  have ka3 := (ka.alloc (cs r.1 A2 c2)).below hb3 (by omega)
  have k3 := (k2.alloc (cs r.1 A2 c2)).below hb3 (by omega)
  have L3 := ((L2.later (Nat.le_refl _) (cs r.1 A2 c2)).below (hb3.mono (by simp))).now (by simp; omega)
  have b13 := ((b1.later (Nat.le_refl _) (cs r.1 A2 c2)).below (hb3.mono (by simp))).now (by simp; omega)
  have b23 := ((a2.later (Nat.le_refl _) (cs r.1 A2 c2)).below (hb3.mono (by simp))).now (by simp; omega)
  clear y0 y1 y2 y3
  have y0 := k3.cell 0
  have y1 := k3.cell 1
  have y2 := k3.cell 2
  have y3 := k3.cell 3
  simp at y0 y1 y2 y3
  go_wp2_with fail
  refine (h4 _ (L3.later (Nat.le_refl _) (cs q.1 A3 c3))).mono ?_
  rintro e w4 ⟨hb4, A4, c4, rfl, hH4, hF4⟩
  have hz4 := hb4.size
  simp only [World.size_alloc] at hb4 hz4
  have g7 : w.heap.size < w4.heap.size := by omega
  have g8 : w1.heap.size < w4.heap.size := by omega
  have g9 : w2.heap.size < w4.heap.size := by omega
  have g10 : w3.heap.size < w4.heap.size := by omega
  have hB4 := one_step hB3 _ hb4
  have a4 := (hH4.lies hF4.1 hF4.2.1 hF4.2.2 (Nat.le_refl _)).later (Nat.le_refl _) (cs q.1 A4 c4)
  have kc := (Blk.new w3 25 #[.int .i64 q.1.k, .int .u64 q.1.n, .string q.1.s, .slice A3 q.1.l.length c3]).below hb4 (by omega)
  have ka4 := (ka3.alloc (cs q.1 A3 c3)).below hb4 (by omega)
  have kb4 := (kb.alloc (cs q.1 A3 c3)).below hb4 (by omega)
  have b14 := (((b13.later (Nat.le_refl _) (cs q.1 A3 c3)).below (hb4.mono (by simp))).now (by simp; omega)).later (Nat.le_refl _) (cs q.1 A4 c4)
  have b24 := (((b23.later (Nat.le_refl _) (cs q.1 A3 c3)).below (hb4.mono (by simp))).now (by simp; omega)).later (Nat.le_refl _) (cs q.1 A4 c4)
  have b34 := (((a3.later (Nat.le_refl _) (cs q.1 A3 c3)).below (hb4.mono (by simp))).now (by simp; omega)).later (Nat.le_refl _) (cs q.1 A4 c4)
  clear y0 y1 y2 y3 k0 k1 k2 k3 L1 L2 L3 a1 a2 a3 b1 b13 b23 hL1 hL hr hl
  have u0 := ka4.cell 0
  have u1 := ka4.cell 1
  have u2 := ka4.cell 2
  have u3 := ka4.cell 3
  have y0 := kb4.cell 0
  have y1 := kb4.cell 1
  have y2 := kb4.cell 2
  have y3 := kb4.cell 3
  simp at u0 u1 u2 u3 y0 y1 y2 y3
  have h5 := like_any r.1.size r.1 _ _ _ (Nat.le_refl _) b14 b24
  go_wp2_with fail
  refine h5.mono ?_
  rintro e w5 ⟨rfl, hb5⟩
  have hz5 := hb5.size
  simp only [World.size_alloc] at hb5 hz5
  have kc5 := (kc.alloc (cs q.1 A4 c4)).below hb5 (by omega)
  have kd5 := (Blk.new w4 25 #[.int .i64 q.1.k, .int .u64 q.1.n, .string q.1.s, .slice A4 q.1.l.length c4]).below hb5 (by omega)
  have v0 := kc5.cell 0
  have v1 := kc5.cell 1
  have v2 := kc5.cell 2
  have v3 := kc5.cell 3
  have x0 := kd5.cell 0
  have x1 := kd5.cell 1
  have x2 := kd5.cell 2
  have x3 := kd5.cell 3
  simp at v0 v1 v2 v3 x0 x1 x2 x3
  have b35 := (b34.below (hb5.mono (by simp))).now (by simp; omega)
  have b45 := (a4.below (hb5.mono (by simp))).now (by simp; omega)
  have h6 := like_any q.1.size q.1 _ _ _ (Nat.le_refl _) b35 b45
  have hB5 := one_step hB4 _ hb5
  go_wp2_with fail
  refine h6.mono ?_
  rintro e w6 ⟨rfl, hb6⟩
  go_wp2_with fail
  go_ret
  exact ⟨rfl, hB5.trans (hb6.mono hB5.size)⟩
end Go.Proofs.Ytgdmhfdlijeogaa.boxes

/- Pack, Unpack, the document's and the program's. -/

namespace Go.Proofs.Ytgdmhfdlijeogaa.boxes
set_option linter.unusedVariables false
set_option linter.unusedSimpArgs false
open Go.RowKit Go.Proofs.Ytgdmhfdlijeogaa.base Go.Proofs.Ytgdmhfdlijeogaa.tm Go.Proofs.Ytgdmhfdlijeogaa.bytes Go.Proofs.Ytgdmhfdlijeogaa.lies Go.Proofs.Ytgdmhfdlijeogaa.rights Go.Proofs.Ytgdmhfdlijeogaa.encs Go.Proofs.Ytgdmhfdlijeogaa.refEncs Go.Proofs.Ytgdmhfdlijeogaa.copies Go.Proofs.Ytgdmhfdlijeogaa.makes Go.Proofs.Ytgdmhfdlijeogaa.reads Go.Proofs.Ytgdmhfdlijeogaa.likes

/-- what is packed -/
def packT (k : Int) (t : T) : ByteArray × Int := if (sealT k t).2 = 0 then (⟨(sealT k t).1.enc.toArray⟩, 0) else (⟨#[]⟩, (sealT k t).2)
/-- what is unpacked -/
def unpackT (k : Int) (s : ByteArray) : T × Int := match tm.decode s.data.toList with
  | .bad err => (zT, err)
  | .ok t => openT k t

theorem seal_right {k : Int} {t : T} (h : (sealT k t).2 = 0) : (sealT k t).1.right = 0 := by
  unfold sealT at h ⊢
  by_cases h1 : t.right = 0
  · rw [if_neg (by simpa using h1)] at h ⊢
    by_cases h2 : (boxT k t).right = 0
    · rw [if_neg (by simpa using h2)]; exact h2
    · rw [if_pos h2] at h; exact absurd h h2
  · rw [if_pos h1] at h; exact absurd h h1

set_option maxRecDepth 100000 in
set_option maxHeartbeats 400000 in
theorem pack_any (k : Int) (t : T) (v : Value) (w : World) (hkk : 0 ≤ k ∧ k < 18446744073709551616) (hL : Lies w w.heap.size t v) :
    Calls Try.prog 17 #[.int .u64 k, T.val t v] w fun e w' => e = .returned (.tuple #[.string (packT k t).1, .int .i64 (packT k t).2]) ∧ Below w.heap.size w w' := by
  obtain ⟨A, c, xs, rfl, hk, hn, hs, hlc, hc, hr, hl⟩ := hL.open_
  have hL1 := hL.later (Nat.le_refl _) (cs t A c)
  have h1 := seal_any k t _ _ hkk hL1
  by_cases hE : (sealT k t).2 = 0
  · have hP : Hid (packT k t = (⟨(sealT k t).1.enc.toArray⟩, 0)) := lay (by unfold packT; rw [if_pos hE])
    have hR := seal_right hE
    generalize sealT k t = r at h1 hE hP hR
    go_enter Try.func17, Try.ntmps17
    go_wp2_with fail
    refine h1.mono ?_
    rintro e w1 ⟨hb1, A1, c1, rfl, hH1, hF1⟩
    rw [hE]
    have hz1 := hb1.size
    simp only [World.size_alloc] at hb1 hz1
    have hB1 := one_step (Below.refl _ _) _ hb1
    have h2 := encode_ok r.1 _ _ ((hH1.lies hF1.1 hF1.2.1 hF1.2.2 (Nat.le_refl _)).later (Nat.le_refl _) (cs r.1 A1 c1)) hR
    clear hE hR
    go_wp2_with fail
    refine h2.mono ?_
    rintro e w2 ⟨rfl, hb2⟩
    simp only [World.size_alloc] at hb2
    go_wp2_with fail
    go_ret2
    exact ⟨by rw [hP.out]; rfl, one_step hB1 _ hb2⟩
  · have hP : Hid (packT k t = (⟨#[]⟩, (sealT k t).2)) := lay (by unfold packT; rw [if_neg hE])
    generalize sealT k t = r at h1 hE hP
    have d1 : (r.2 != 0) = true := by simpa using hE
    clear hE
    go_enter Try.func17, Try.ntmps17
    go_wp2_with fail
    refine h1.mono ?_
    rintro e w1 ⟨hb1, A1, c1, rfl, hH1, hF1⟩
    have hz1 := hb1.size
    simp only [World.size_alloc] at hb1 hz1
    have hB1 := one_step (Below.refl _ _) _ hb1
    go_wp2_with fail
    go_ret2
    exact ⟨by rw [hP.out]; rfl, hB1.alloc hB1.size _⟩

set_option maxRecDepth 100000 in
set_option maxHeartbeats 400000 in
theorem refPack_any (k : Int) (t : T) (v : Value) (w : World) (hkk : 0 ≤ k ∧ k < 18446744073709551616) (hL : Lies w w.heap.size t v) :
    Calls Try.prog 18 #[.int .u64 k, T.val t v] w fun e w' => e = .returned (.tuple #[.string (packT k t).1, .int .i64 (packT k t).2]) ∧ Below w.heap.size w w' := by
  obtain ⟨A, c, xs, rfl, hk, hn, hs, hlc, hc, hr, hl⟩ := hL.open_
  have hL1 := hL.later (Nat.le_refl _) (cs t A c)
  have h1 := refSeal_any k t _ _ hkk hL1
  by_cases hE : (sealT k t).2 = 0
  · have hP : Hid (packT k t = (⟨(sealT k t).1.enc.toArray⟩, 0)) := lay (by unfold packT; rw [if_pos hE])
    have hR := seal_right hE
    generalize sealT k t = r at h1 hE hP hR
    obtain ⟨r1, r2, r3⟩ := right_ok hR
    go_enter Try.func18, Try.ntmps18
    go_wp2_with fail
    refine h1.mono ?_
    rintro e w1 ⟨hb1, A1, c1, rfl, hH1, hF1⟩
    rw [hE]
    have hz1 := hb1.size
    simp only [World.size_alloc] at hb1 hz1
    have hB1 := one_step (Below.refl _ _) _ hb1
    have h2 := bytes_any r.1.size r.1 _ _ (Nat.le_refl _) r1 r3 ((hH1.lies hF1.1 hF1.2.1 hF1.2.2 (Nat.le_refl _)).later (Nat.le_refl _) (cs r.1 A1 c1))
    clear hE hR r1 r2 r3
    go_wp2_with fail
    refine h2.mono ?_
    rintro e w2 ⟨rfl, hb2⟩
    simp only [World.size_alloc] at hb2
    go_wp2_with fail
    go_ret2
    exact ⟨by rw [hP.out]; rfl, one_step hB1 _ hb2⟩
  · have hP : Hid (packT k t = (⟨#[]⟩, (sealT k t).2)) := lay (by unfold packT; rw [if_neg hE])
    generalize sealT k t = r at h1 hE hP
    have d1 : (r.2 != 0) = true := by simpa using hE
    clear hE
    go_enter Try.func18, Try.ntmps18
    go_wp2_with fail
    refine h1.mono ?_
    rintro e w1 ⟨hb1, A1, c1, rfl, hH1, hF1⟩
    have hz1 := hb1.size
    simp only [World.size_alloc] at hb1 hz1
    have hB1 := one_step (Below.refl _ _) _ hb1
    go_wp2_with fail
    go_ret2
    exact ⟨by rw [hP.out]; rfl, hB1.alloc hB1.size _⟩

set_option maxRecDepth 100000 in
set_option maxHeartbeats 400000 in
theorem unpack_any (k : Int) (s : ByteArray) (w : World) (hs : s.size ≤ maxLen) :
    Calls Try.prog 19 #[.int .u64 k, .string s] w (Ans w (unpackT k s)) := by
  have h1 := decode_any s (w.alloc (.cells #[.int .i64 0, .int .u64 0, .string ⟨#[]⟩, .slice none 0 0] 25)) hs
  have k0 := Blk.new w 25 #[.int .i64 0, .int .u64 0, .string ⟨#[]⟩, .slice none 0 0]
  unfold unpackT
  cases hq : tm.decode s.data.toList with
  | bad err =>
    rw [hq] at h1
    clear hq
    go_enter Try.func19, Try.ntmps19
    go_wp2_with fail
    refine h1.mono ?_
    rintro e w1 ⟨hb1, hne, rfl⟩
    have hz1 := hb1.size
    simp only [World.size_alloc] at hb1 hz1
    have hB1 := one_step (Below.refl _ _) _ hb1
    have d1 : (err != 0) = true := by simpa using hne
    clear hne
    have k1 := k0.below hb1 (by omega)
    have z0 := k1.cell 0
    have z1 := k1.cell 1
    have z2 := k1.cell 2
    have z3 := k1.cell 3
    simp at z0 z1 z2 z3
    have f0 := k1.frozen 0
    have f1 := k1.frozen 1
    have f2 := k1.frozen 2
    have f3 := k1.frozen 3
    have hw1 : w.heap.size < w1.heap.size := by omega
    go_wp2_with fail
    refine bodyPost_ret (v := .tuple #[T.val zT (.slice none 0 0), .int .i64 err]) (by simp [results, Try.results19, go_sem, z0, z1, z2, z3, hw1, show zT.k = 0 from rfl, show zT.n = 0 from rfl, show zT.s = ⟨#[]⟩ from rfl]) rfl ⟨?_, none, 0, rfl, Held.nil _ _ _, fits_z⟩
    exact (four_below (o := 0) hB1 (Nat.le_refl _) _ _ _ _).alloc (by rw [four_size]; omega) _
  | ok t =>
    rw [hq] at h1
    clear hq
    show Calls Try.prog 19 _ w (Ans w (openT k t))
    have ho := fun v wx hx => open_any k t v wx hx
    generalize openT k t = q at ho
    go_enter Try.func19, Try.ntmps19
    go_wp2_with fail
    refine h1.mono ?_
    rintro e w1 ⟨hb1, A1, c1, rfl, hL1⟩
    have hz1 := hb1.size
    simp only [World.size_alloc] at hb1 hz1
    have hB1 := one_step (Below.refl _ _) _ hb1
    have k1 := k0.below hb1 (by omega)
    have hw1 : w.heap.size < w1.heap.size := by omega
    have h2 := ho _ _ (hL1.later (Nat.le_refl _) (cs t A1 c1))
    go_wp2_with fail
    refine h2.mono ?_
    rintro e w2 ⟨hb2, A2, c2, rfl, hH2, hF2⟩
    have hz2 := hb2.size
    simp only [World.size_alloc] at hb2 hz2
    have hB2 := one_step hB1 _ hb2
    have k2 := (k1.alloc (cs t A1 c1)).below hb2 (by omega)
    have z0 := k2.cell 0
    have z1 := k2.cell 1
    have z2 := k2.cell 2
    have z3 := k2.cell 3
    simp at z0 z1 z2 z3
    have f0 := k2.frozen 0
    have f1 := k2.frozen 1
    have f2 := k2.frozen 2
    have f3 := k2.frozen 3
    have hw2 : w.heap.size < w2.heap.size := by omega
    go_wp2_with fail
    refine bodyPost_ret (v := .tuple #[T.val q.1 (.slice A2 q.1.l.length c2), .int .i64 q.2]) (by simp [results, Try.results19, go_sem, z0, z1, z2, z3, hw2]) rfl ⟨?_, A2, c2, rfl, ?_, hF2⟩
    · exact four_below (o := 0) hB2 (Nat.le_refl _) _ _ _ _
    · exact hH2.move (by simp; omega) (by simp) fun p p1 p2 => four_cell w2 w.heap.size 0 _ _ _ _ p (by simp at p1; omega)

set_option maxRecDepth 100000 in
set_option maxHeartbeats 400000 in
theorem refUnpack_any (k : Int) (s : ByteArray) (w : World) (hs : s.size ≤ maxLen) :
    Calls Try.prog 20 #[.int .u64 k, .string s] w (Ans w (unpackT k s)) := by
  have h1 := refReads.refDecode_any s (w.alloc (.cells #[.int .i64 0, .int .u64 0, .string ⟨#[]⟩, .slice none 0 0] 25)) hs
  have k0 := Blk.new w 25 #[.int .i64 0, .int .u64 0, .string ⟨#[]⟩, .slice none 0 0]
  unfold unpackT
  cases hq : tm.decode s.data.toList with
  | bad err =>
    rw [hq] at h1
    clear hq
    go_enter Try.func20, Try.ntmps20
    go_wp2_with fail
    refine h1.mono ?_
    rintro e w1 ⟨hb1, hne, rfl⟩
    have hz1 := hb1.size
    simp only [World.size_alloc] at hb1 hz1
    have hB1 := one_step (Below.refl _ _) _ hb1
    have d1 : (err != 0) = true := by simpa using hne
    clear hne
    have k1 := k0.below hb1 (by omega)
    have z0 := k1.cell 0
    have z1 := k1.cell 1
    have z2 := k1.cell 2
    have z3 := k1.cell 3
    simp at z0 z1 z2 z3
    have f0 := k1.frozen 0
    have f1 := k1.frozen 1
    have f2 := k1.frozen 2
    have f3 := k1.frozen 3
    have hw1 : w.heap.size < w1.heap.size := by omega
    go_wp2_with fail
    refine bodyPost_ret (v := .tuple #[T.val zT (.slice none 0 0), .int .i64 err]) (by simp [results, Try.results20, go_sem, z0, z1, z2, z3, hw1, show zT.k = 0 from rfl, show zT.n = 0 from rfl, show zT.s = ⟨#[]⟩ from rfl]) rfl ⟨?_, none, 0, rfl, Held.nil _ _ _, fits_z⟩
    exact (four_below (o := 0) hB1 (Nat.le_refl _) _ _ _ _).alloc (by rw [four_size]; omega) _
  | ok t =>
    rw [hq] at h1
    clear hq
    show Calls Try.prog 20 _ w (Ans w (openT k t))
    have ho := fun v wx hx => refOpen_any k t v wx hx
    generalize openT k t = q at ho
    go_enter Try.func20, Try.ntmps20
    go_wp2_with fail
    refine h1.mono ?_
    rintro e w1 ⟨hb1, A1, c1, rfl, hL1⟩
    have hz1 := hb1.size
    simp only [World.size_alloc] at hb1 hz1
    have hB1 := one_step (Below.refl _ _) _ hb1
    have k1 := k0.below hb1 (by omega)
    have hw1 : w.heap.size < w1.heap.size := by omega
    have h2 := ho _ _ (hL1.later (Nat.le_refl _) (cs t A1 c1))
    go_wp2_with fail
    refine h2.mono ?_
    rintro e w2 ⟨hb2, A2, c2, rfl, hH2, hF2⟩
    have hz2 := hb2.size
    simp only [World.size_alloc] at hb2 hz2
    have hB2 := one_step hB1 _ hb2
    have k2 := (k1.alloc (cs t A1 c1)).below hb2 (by omega)
    have z0 := k2.cell 0
    have z1 := k2.cell 1
    have z2 := k2.cell 2
    have z3 := k2.cell 3
    simp at z0 z1 z2 z3
    have f0 := k2.frozen 0
    have f1 := k2.frozen 1
    have f2 := k2.frozen 2
    have f3 := k2.frozen 3
    have hw2 : w.heap.size < w2.heap.size := by omega
    go_wp2_with fail
    refine bodyPost_ret (v := .tuple #[T.val q.1 (.slice A2 q.1.l.length c2), .int .i64 q.2]) (by simp [results, Try.results20, go_sem, z0, z1, z2, z3, hw2]) rfl ⟨?_, A2, c2, rfl, ?_, hF2⟩
    · exact four_below (o := 0) hB2 (Nat.le_refl _) _ _ _ _
    · exact hH2.move (by simp; omega) (by simp) fun p p1 p2 => four_cell w2 w.heap.size 0 _ _ _ _ p (by simp at p1; omega)
end Go.Proofs.Ytgdmhfdlijeogaa.boxes

/- The walk of the law BoxPacks: it answers true and writes nothing that was there. -/

namespace Go.Proofs.Ytgdmhfdlijeogaa.boxes
set_option linter.unusedVariables false
set_option linter.unusedSimpArgs false
open Go.RowKit Go.Proofs.Ytgdmhfdlijeogaa.base Go.Proofs.Ytgdmhfdlijeogaa.tm Go.Proofs.Ytgdmhfdlijeogaa.lies Go.Proofs.Ytgdmhfdlijeogaa.rights Go.Proofs.Ytgdmhfdlijeogaa.encs Go.Proofs.Ytgdmhfdlijeogaa.copies Go.Proofs.Ytgdmhfdlijeogaa.makes Go.Proofs.Ytgdmhfdlijeogaa.reads Go.Proofs.Ytgdmhfdlijeogaa.likes

set_option maxRecDepth 100000 in
set_option maxHeartbeats 800000 in
theorem law_packs (k : Int) (t : T) (v : Value) (s : ByteArray) (w : World) (hkk : 0 ≤ k ∧ k < 18446744073709551616) (hL : Lies w w.heap.size t v) (hs : s.size ≤ maxLen) :
    Calls Try.prog 5 #[.int .u64 k, T.val t v, .string s] w fun e w' => e = .returned (.bool true) ∧ Below w.heap.size w w' := by
  obtain ⟨A, c, xs, rfl, hk, hn, hss, hlc, hc, hr, hl⟩ := hL.open_
  have hL1 := hL.later (Nat.le_refl _) (cs t A c)
  have h1 := fun wx (hx : Lies wx wx.heap.size t (.slice A t.l.length c)) => pack_any k t _ wx hkk hx
  have h2 := fun wx (hx : Lies wx wx.heap.size t (.slice A t.l.length c)) => refPack_any k t _ wx hkk hx
  have h3 := fun wx => unpack_any k s wx hs
  have h4 := fun wx => refUnpack_any k s wx hs
  generalize packT k t = p at h1 h2
  generalize unpackT k s = q at h3 h4
  have k0 := Blk.new w 25 #[.int .i64 t.k, .int .u64 t.n, .string t.s, .slice A t.l.length c]
  go_enter Try.func5, Try.ntmps5
  go_wp2_with fail
  refine (h1 _ hL1).mono ?_
  rintro e w1 ⟨rfl, hb1⟩
  have L1 := (hL1.below hb1).now hb1.size
  have hz1 := hb1.size
  simp only [World.size_alloc] at hb1 hz1
  have hB1 := one_step (Below.refl _ _) _ hb1
  have k1 := k0.below hb1 (by omega)
  have y0 := k1.cell 0
  have y1 := k1.cell 1
  have y2 := k1.cell 2
  have y3 := k1.cell 3
  simp at y0 y1 y2 y3
  go_wp2_with fail
  refine (h2 _ L1).mono ?_
  rintro e w2 ⟨rfl, hb2⟩
  have hz2 := hb2.size
  have hB2 := hB1.trans (hb2.mono hB1.size)
  clear y0 y1 y2 y3
  go_wp2_with fail
  refine (h3 _).mono ?_
  rintro e w3 ⟨hb3, A3, c3, rfl, hH3, hF3⟩
  have hz3 := hb3.size
  have hB3 := hB2.trans (hb3.mono hB2.size)
  have a3 := (hH3.lies hF3.1 hF3.2.1 hF3.2.2 (Nat.le_refl _)).later (Nat.le_refl _) (cs q.1 A3 c3)
  go_wp2_with fail
  refine (h4 _).mono ?_
  rintro e w4 ⟨hb4, A4, c4, rfl, hH4, hF4⟩
  have a34 := ((a3.below hb4).now hb4.size).later (Nat.le_refl _) (cs q.1 A4 c4)
  have hz4 := hb4.size
  simp only [World.size_alloc] at hb4 hz4
  have g1 : w3.heap.size < w4.heap.size := by omega
  have hB4 := one_step hB3 _ hb4
  have a4 := (hH4.lies hF4.1 hF4.2.1 hF4.2.2 (Nat.le_refl _)).later (Nat.le_refl _) (cs q.1 A4 c4)
  have kc := (Blk.new w3 25 #[.int .i64 q.1.k, .int .u64 q.1.n, .string q.1.s, .slice A3 q.1.l.length c3]).below hb4 (by omega)
  have u0 := kc.cell 0
  have u1 := kc.cell 1
  have u2 := kc.cell 2
  have u3 := kc.cell 3
  simp at u0 u1 u2 u3
  have h5 := like_any q.1.size q.1 _ _ _ (Nat.le_refl _) a34 a4
  go_wp2_with fail
  refine h5.mono ?_
  rintro e w5 ⟨rfl, hb5⟩
  simp only [World.size_alloc] at hb5
  have hB5 := one_step hB4 _ hb5
  go_wp2_with fail
  go_ret
  exact ⟨rfl, hB5⟩
end Go.Proofs.Ytgdmhfdlijeogaa.boxes

/- The walk of the law BoxOpens: it answers true and writes nothing that was there. -/

namespace Go.Proofs.Ytgdmhfdlijeogaa.boxes
set_option linter.unusedVariables false
set_option linter.unusedSimpArgs false
open Go.RowKit Go.Proofs.Ytgdmhfdlijeogaa.base Go.Proofs.Ytgdmhfdlijeogaa.tm Go.Proofs.Ytgdmhfdlijeogaa.lies Go.Proofs.Ytgdmhfdlijeogaa.rights Go.Proofs.Ytgdmhfdlijeogaa.encs Go.Proofs.Ytgdmhfdlijeogaa.copies Go.Proofs.Ytgdmhfdlijeogaa.makes Go.Proofs.Ytgdmhfdlijeogaa.reads Go.Proofs.Ytgdmhfdlijeogaa.likes

theorem pack_err (k : Int) (t : T) : (packT k t).2 = (sealT k t).2 := by
  unfold packT
  by_cases h : (sealT k t).2 = 0
  · rw [if_pos h, h]
  · rw [if_neg h]
theorem seal_box {k : Int} {t : T} (h : (sealT k t).2 = 0) : sealT k t = (boxT k t, 0) ∧ t.right = 0 ∧ (boxT k t).right = 0 := by
  unfold sealT at h ⊢
  by_cases h1 : t.right = 0
  · rw [if_neg (by simpa using h1)] at h ⊢
    by_cases h2 : (boxT k t).right = 0
    · rw [if_neg (by simpa using h2)]; exact ⟨rfl, h1, h2⟩
    · rw [if_pos h2] at h; exact absurd h h2
  · rw [if_pos h1] at h; exact absurd h h1
theorem open_box {k o : Int} {t : T} (h : (boxT k t).right = 0) : openT o (boxT k t) = if k = o then (t, 0) else (zT, 31) := by
  unfold openT
  rw [if_neg (by simpa using h), if_neg (show ¬ (boxT k t).k ≠ 4 from fun h => h rfl)]
  by_cases h2 : k = o
  · rw [if_neg (show ¬ (boxT k t).n ≠ o from fun h => h h2), if_pos h2]; rfl
  · rw [if_pos (show (boxT k t).n ≠ o from h2), if_neg h2]
theorem unpack_box {k o : Int} {t : T} (h : (boxT k t).right = 0) (hw : (boxT k t).word) : unpackT o ⟨(boxT k t).enc.toArray⟩ = if k = o then (t, 0) else (zT, 31) := by
  unfold unpackT
  have hd := decode_enc h hw []
  rw [List.append_nil, if_pos rfl] at hd
  have e : (⟨(boxT k t).enc.toArray⟩ : ByteArray).data.toList = (boxT k t).enc := by simp
  rw [e, hd]
  exact open_box h
theorem word_box {k : Int} {t : T} (hk : 0 ≤ k ∧ k < 18446744073709551616) (hw : t.word) : (boxT k t).word := ⟨⟨hk, by show 1 < 18446744073709551616; omega⟩, hw, trivial⟩

set_option maxRecDepth 100000 in
set_option maxHeartbeats 800000 in
theorem opens_bad (k o : Int) (t : T) (v : Value) (w : World) (hkk : 0 ≤ k ∧ k < 18446744073709551616) (hL : Lies w w.heap.size t v) (hE : (sealT k t).2 ≠ 0) :
    Calls Try.prog 6 #[.int .u64 k, .int .u64 o, T.val t v] w fun e w' => e = .returned (.bool true) ∧ Below w.heap.size w w' := by
  obtain ⟨A, c, xs, rfl, hk, hn, hss, hlc, hc, hr, hl⟩ := hL.open_
  have hL1 := hL.later (Nat.le_refl _) (cs t A c)
  have h1 := fun wx (hx : Lies wx wx.heap.size t (.slice A t.l.length c)) => refSeal_any k t _ wx hkk hx
  have h2 := fun wx (hx : Lies wx wx.heap.size t (.slice A t.l.length c)) => seal_any k t _ wx hkk hx
  have h3 := fun wx (hx : Lies wx wx.heap.size t (.slice A t.l.length c)) => pack_any k t _ wx hkk hx
  have hp := pack_err k t
  generalize packT k t = p at h3 hp
  generalize sealT k t = r at h1 h2 hE hp
  rw [hp] at h3
  clear hp
  have d1 : (r.2 != 0) = true := by simpa using hE
  clear hE
  have k0 := Blk.new w 25 #[.int .i64 t.k, .int .u64 t.n, .string t.s, .slice A t.l.length c]
  go_enter Try.func6, Try.ntmps6
  go_wp2_with fail
  refine (h1 _ hL1).mono ?_
  rintro e w1 ⟨hb1, A1, c1, rfl, hH1, hF1⟩
  have L1 := ((hL1.below hb1).now hb1.size).later (Nat.le_refl _) (cs r.1 A1 c1)
  have hz1 := hb1.size
  simp only [World.size_alloc] at hb1 hz1
  have hB1 := one_step (Below.refl _ _) _ hb1
  have g1 : w.heap.size < w1.heap.size := by omega
  have k1 := k0.below hb1 (by omega)
  have y0 := k1.cell 0
  have y1 := k1.cell 1
  have y2 := k1.cell 2
  have y3 := k1.cell 3
  simp at y0 y1 y2 y3
  go_wp2_with fail
  refine (h2 _ L1).mono ?_
  rintro e w2 ⟨hb2, A2, c2, rfl, hH2, hF2⟩
  have L2 := ((L1.below hb2).now hb2.size).later (Nat.le_refl _) (cs r.1 A2 c2)
  have hz2 := hb2.size
  simp only [World.size_alloc] at hb2 hz2
  have hB2 := one_step hB1 _ hb2
  have g2 : w.heap.size < w2.heap.size := by omega
  have k2 := (k1.alloc (cs r.1 A1 c1)).below hb2 (by omega)
  clear y0 y1 y2 y3
  have y0 := k2.cell 0
  have y1 := k2.cell 1
  have y2 := k2.cell 2
  have y3 := k2.cell 3
  simp at y0 y1 y2 y3
  go_wp2_with fail
  refine (h3 _ L2).mono ?_
  rintro e w3 ⟨rfl, hb3⟩
  simp only [World.size_alloc] at hb3
  have hB3 := one_step hB2 _ hb3
  go_wp2_with fail
  go_ret
  exact ⟨rfl, hB3⟩

/-- Ans, of a term and a number -/
def Ans2 (W : World) (t : T) (n : Int) (e : Ending) (w' : World) : Prop :=
  Below W.heap.size W w' ∧ ∃ (A : Option Addr) (c : Nat), e = .returned (.tuple #[T.val t (.slice A t.l.length c), .int .i64 n]) ∧ Held w' W.heap.size w'.heap.size t.l (.slice A t.l.length c) ∧ Fits t

set_option maxRecDepth 100000 in
set_option maxHeartbeats 1600000 in
theorem opens_walk (k o : Int) (t b q : T) (n : Int) (s : ByteArray) (A : Option Addr) (c : Nat) (w : World) (hL : Lies w w.heap.size t (.slice A t.l.length c))
    (h1 : ∀ wx, Lies wx wx.heap.size t (.slice A t.l.length c) → Calls Try.prog 9 #[.int .u64 k, T.val t (.slice A t.l.length c)] wx (Ans2 wx b 0))
    (h2 : ∀ wx, Lies wx wx.heap.size t (.slice A t.l.length c) → Calls Try.prog 8 #[.int .u64 k, T.val t (.slice A t.l.length c)] wx (Ans2 wx b 0))
    (h3 : ∀ wx, Lies wx wx.heap.size t (.slice A t.l.length c) → Calls Try.prog 17 #[.int .u64 k, T.val t (.slice A t.l.length c)] wx fun e w' => e = .returned (.tuple #[.string s, .int .i64 0]) ∧ Below wx.heap.size wx w')
    (h4 : ∀ wx v, Lies wx wx.heap.size b v → Calls Try.prog 10 #[.int .u64 k, T.val b v] wx (Ans2 wx t 0))
    (h5 : ∀ wx, Calls Try.prog 19 #[.int .u64 k, .string s] wx (Ans2 wx t 0))
    (h6 : ∀ wx v, Lies wx wx.heap.size b v → Calls Try.prog 10 #[.int .u64 o, T.val b v] wx (Ans2 wx q n))
    (h7 : ∀ wx, Calls Try.prog 19 #[.int .u64 o, .string s] wx (Ans2 wx q n))
    (hq : ((o == k) = true ∧ n = 0) ∨ ((o == k) = false ∧ n = 31)) :
    Calls Try.prog 6 #[.int .u64 k, .int .u64 o, T.val t (.slice A t.l.length c)] w fun e w' => e = .returned (.bool true) ∧ Below w.heap.size w w' := by
  have HQ := lay hq
  clear hq
  have hL1 := hL.later (Nat.le_refl _) (cs t A c)
  have p0 := Blk.new w 25 #[.int .i64 t.k, .int .u64 t.n, .string t.s, .slice A t.l.length c]
  go_enter Try.func6, Try.ntmps6
  go_wp2_with fail
  refine (h1 _ hL1).mono ?_
  rintro e w1 ⟨hb1, A1, c1, rfl, hH1, hF1⟩
  have L1 := ((hL1.below hb1).now hb1.size).later (Nat.le_refl _) (cs b A1 c1)
  have hz1 := hb1.size
  simp only [World.size_alloc] at hb1 hz1
  have hB1 := one_step (Below.refl _ _) _ hb1
  have g1 : w.heap.size < w1.heap.size := by omega
  have p1 := p0.below hb1 (by omega)
  have y0 := p1.cell 0
  have y1 := p1.cell 1
  have y2 := p1.cell 2
  have y3 := p1.cell 3
  simp at y0 y1 y2 y3
  go_wp2_with fail
  refine (h2 _ L1).mono ?_
  rintro e w2 ⟨hb2, A2, c2, rfl, hH2, hF2⟩
  have L2 := ((L1.below hb2).now hb2.size).later (Nat.le_refl _) (cs b A2 c2)
  have M2 := (hH2.lies hF2.1 hF2.2.1 hF2.2.2 (Nat.le_refl _)).later (Nat.le_refl _) (cs b A2 c2)
  have hz2 := hb2.size
  simp only [World.size_alloc] at hb2 hz2
  have hB2 := one_step hB1 _ hb2
  have g2 : w.heap.size < w2.heap.size := by omega
  have p2 := (p1.alloc (cs b A1 c1)).below hb2 (by omega)
  clear y0 y1 y2 y3
  have y0 := p2.cell 0
  have y1 := p2.cell 1
  have y2 := p2.cell 2
  have y3 := p2.cell 3
  simp at y0 y1 y2 y3
  go_wp2_with fail
  refine (h3 _ L2).mono ?_
  rintro e w3 ⟨rfl, hb3⟩
  have L3 := (L2.below hb3).now hb3.size
  have M3 := (M2.below hb3).now hb3.size
  have hz3 := hb3.size
  simp only [World.size_alloc] at hb3 hz3
  have hB3 := one_step hB2 _ hb3
  have g3 : w.heap.size < w3.heap.size := by omega
  have g4 : w2.heap.size < w3.heap.size := by omega
  have p3 := (p2.alloc (cs b A2 c2)).below hb3 (by omega)
  have b3 := (Blk.new w2 25 #[.int .i64 b.k, .int .u64 b.n, .string b.s, .slice A2 b.l.length c2]).below hb3 (by omega)
  clear y0 y1 y2 y3 hL1 L1 L2 M2
  have y0 := b3.cell 0
  have y1 := b3.cell 1
  have y2 := b3.cell 2
  have y3 := b3.cell 3
  simp at y0 y1 y2 y3
  go_wp2_with fail
  refine (h4 _ _ M3).mono ?_
  rintro e w4 ⟨hb4, A4, c4, rfl, hH4, hF4⟩
  have L4 := ((L3.below hb4).now hb4.size).later (Nat.le_refl _) (cs t A4 c4)
  have M4 := ((M3.below hb4).now hb4.size).later (Nat.le_refl _) (cs t A4 c4)
  have X4 := (hH4.lies hF4.1 hF4.2.1 hF4.2.2 (Nat.le_refl _)).later (Nat.le_refl _) (cs t A4 c4)
  have hz4 := hb4.size
  have hB4 := hB3.trans (hb4.mono hB3.size)
  have p4 := p3.below hb4 (by omega)
  have b4 := b3.below hb4 (by omega)
  clear y0 y1 y2 y3 L3 M3
  go_wp2_with fail
  refine (h5 _).mono ?_
  rintro e w5 ⟨hb5, A5, c5, rfl, hH5, hF5⟩
  have L5 := ((L4.below hb5).now hb5.size).later (Nat.le_refl _) (cs t A5 c5)
  have M5 := ((M4.below hb5).now hb5.size).later (Nat.le_refl _) (cs t A5 c5)
  have X5 := ((X4.below hb5).now hb5.size).later (Nat.le_refl _) (cs t A5 c5)
  have Y5 := (hH5.lies hF5.1 hF5.2.1 hF5.2.2 (Nat.le_refl _)).later (Nat.le_refl _) (cs t A5 c5)
  have hz5 := hb5.size
  simp only [World.size_alloc] at hb5 hz5
  have hB5 := one_step hB4 _ hb5
  have g5 : w2.heap.size < w5.heap.size := by omega
  have p5 := (p4.alloc (cs t A4 c4)).below hb5 (by omega)
  have b5 := (b4.alloc (cs t A4 c4)).below hb5 (by omega)
  have x5 := (Blk.new w4 25 #[.int .i64 t.k, .int .u64 t.n, .string t.s, .slice A4 t.l.length c4]).below hb5 (by omega)
  have y0 := b5.cell 0
  have y1 := b5.cell 1
  have y2 := b5.cell 2
  have y3 := b5.cell 3
  simp at y0 y1 y2 y3
  clear L4 M4 X4
  go_wp2_with fail
  refine (h6 _ _ M5).mono ?_
  rintro e w6 ⟨hb6, A6, c6, rfl, hH6, hF6⟩
  have L6 := ((L5.below hb6).now hb6.size).later (Nat.le_refl _) (cs q A6 c6)
  have X6 := ((X5.below hb6).now hb6.size).later (Nat.le_refl _) (cs q A6 c6)
  have Y6 := ((Y5.below hb6).now hb6.size).later (Nat.le_refl _) (cs q A6 c6)
  have hz6 := hb6.size
  simp only [World.size_alloc] at hb6 hz6
  have hB6 := one_step hB5 _ hb6
  have p6 := (p5.alloc (cs t A5 c5)).below hb6 (by omega)
  have x6 := (x5.alloc (cs t A5 c5)).below hb6 (by omega)
  have v6 := (Blk.new w5 25 #[.int .i64 t.k, .int .u64 t.n, .string t.s, .slice A5 t.l.length c5]).below hb6 (by omega)
  clear y0 y1 y2 y3 L5 M5 X5 Y5
  go_wp2_with fail
  refine (h7 _).mono ?_
  rintro e w7 ⟨hb7, A7, c7, rfl, hH7, hF7⟩
  have L7 := ((L6.below hb7).now hb7.size).later (Nat.le_refl _) (cs q A7 c7)
  have X7 := ((X6.below hb7).now hb7.size).later (Nat.le_refl _) (cs q A7 c7)
  have Y7 := ((Y6.below hb7).now hb7.size).later (Nat.le_refl _) (cs q A7 c7)
  have hz7 := hb7.size
  simp only [World.size_alloc] at hb7 hz7
  have hB7 := one_step hB6 _ hb7
  have g6 : w.heap.size < w7.heap.size := by omega
  have g7 : w4.heap.size < w7.heap.size := by omega
  have p7 := (p6.alloc (cs q A6 c6)).below hb7 (by omega)
  have x7 := (x6.alloc (cs q A6 c6)).below hb7 (by omega)
  have v7 := (v6.alloc (cs q A6 c6)).below hb7 (by omega)
  have y0 := p7.cell 0
  have y1 := p7.cell 1
  have y2 := p7.cell 2
  have y3 := p7.cell 3
  have x0 := x7.cell 0
  have x1 := x7.cell 1
  have x2 := x7.cell 2
  have x3 := x7.cell 3
  simp at y0 y1 y2 y3 x0 x1 x2 x3
  clear L6 X6 Y6
  have h8 := like_any t.size t _ _ _ (Nat.le_refl _) X7 L7
  go_wp2_with fail
  refine h8.mono ?_
  rintro e w8 ⟨rfl, hb8⟩
  have L8 := (L7.below hb8).now hb8.size
  have Y8 := (Y7.below hb8).now hb8.size
  have hz8 := hb8.size
  simp only [World.size_alloc] at hb8 hz8
  have hB8 := one_step hB7 _ hb8
  have p8 := (p7.alloc (cs q A7 c7)).below hb8 (by omega)
  have v8 := (v7.alloc (cs q A7 c7)).below hb8 (by omega)
  clear y0 y1 y2 y3 x0 x1 x2 x3
  have y0 := p8.cell 0
  have y1 := p8.cell 1
  have y2 := p8.cell 2
  have y3 := p8.cell 3
  have x0 := v8.cell 0
  have x1 := v8.cell 1
  have x2 := v8.cell 2
  have x3 := v8.cell 3
  simp at y0 y1 y2 y3 x0 x1 x2 x3
  have h9 := like_any t.size t _ _ _ (Nat.le_refl _) Y8 L8
  go_wp2_with fail
  refine h9.mono ?_
  rintro e w9 ⟨rfl, hb9⟩
  have hB9 := hB8.trans (hb9.mono hB8.size)
  rcases HQ.out with ⟨d1, rfl⟩ | ⟨d1, rfl⟩
  · go_wp2_with fail
    go_ret
    exact ⟨rfl, hB9⟩
  · go_wp2_with fail
    go_ret
    exact ⟨rfl, hB9⟩

theorem opens_ok (k o : Int) (t : T) (v : Value) (w : World) (hkk : 0 ≤ k ∧ k < 18446744073709551616) (hL : Lies w w.heap.size t v) (hE : (sealT k t).2 = 0) :
    Calls Try.prog 6 #[.int .u64 k, .int .u64 o, T.val t v] w fun e w' => e = .returned (.bool true) ∧ Below w.heap.size w w' := by
  have hw := word_box hkk (Lies.word _ _ hL)
  obtain ⟨A, c, xs, rfl, hk, hn, hss, hlc, hc, hr, hl⟩ := hL.open_
  obtain ⟨es, hR, hS⟩ := seal_box hE
  have ep : packT k t = (⟨(boxT k t).enc.toArray⟩, 0) := by unfold packT; rw [if_pos hE, es]
  have h1 := fun wx (hx : Lies wx wx.heap.size t (.slice A t.l.length c)) => refSeal_any k t _ wx hkk hx
  have h2 := fun wx (hx : Lies wx wx.heap.size t (.slice A t.l.length c)) => seal_any k t _ wx hkk hx
  have h3 := fun wx (hx : Lies wx wx.heap.size t (.slice A t.l.length c)) => pack_any k t _ wx hkk hx
  rw [es] at h1 h2
  rw [ep] at h3
  have hlen : (⟨(boxT k t).enc.toArray⟩ : ByteArray).size ≤ maxLen := by
    have := cuts.enc_size hS hw
    have e : (⟨(boxT k t).enc.toArray⟩ : ByteArray).size = (boxT k t).enc.length := by show (boxT k t).enc.toArray.size = _; simp
    unfold maxLen; omega
  have h4 := fun wx v hx => open_any k (boxT k t) v wx hx
  have h5 := fun wx => unpack_any k _ wx hlen
  have h6 := fun wx v hx => open_any o (boxT k t) v wx hx
  have h7 := fun wx => unpack_any o _ wx hlen
  rw [open_box hS, if_pos rfl] at h4
  rw [unpack_box hS hw, if_pos rfl] at h5
  rw [open_box hS] at h6
  rw [unpack_box hS hw] at h7
  by_cases ho : k = o
  · rw [if_pos ho] at h6 h7
    exact opens_walk k o t _ _ _ _ A c w hL h1 h2 h3 h4 h5 h6 h7 (.inl ⟨by simp [ho], rfl⟩)
  · rw [if_neg ho] at h6 h7
    exact opens_walk k o t _ _ _ _ A c w hL h1 h2 h3 h4 h5 h6 h7 (.inr ⟨by simp; omega, rfl⟩)

theorem law_opens (k o : Int) (t : T) (v : Value) (w : World) (hkk : 0 ≤ k ∧ k < 18446744073709551616) (hL : Lies w w.heap.size t v) :
    Calls Try.prog 6 #[.int .u64 k, .int .u64 o, T.val t v] w fun e w' => e = .returned (.bool true) ∧ Below w.heap.size w w' := by
  by_cases hE : (sealT k t).2 = 0
  · exact opens_ok k o t v w hkk hL hE
  · exact opens_bad k o t v w hkk hL hE
end Go.Proofs.Ytgdmhfdlijeogaa.boxes
