/- Plain laws of reading: a beginning of a right term's bytes that is not all of them is too short. -/
import Derived.Test.YtoenkkbcpafanaaA37
import Derived.Test.YtoenkkbcpafanaaA36
import Derived.Test.YtoenkkbcpafanaaA34
import Derived.Test.YtoenkkbcpafanaaA31


namespace Go.Proofs.Ytoenkkbcpafanaa.tm
set_option linter.unusedVariables false
set_option linter.unusedSimpArgs false
open Go.Proofs.Ytoenkkbcpafanaa.lies Go.Proofs.Ytoenkkbcpafanaa.encs

theorem take_app {α : Type} (a b : List α) (k : Nat) : (a ++ b).take k = if k < a.length then a.take k else a ++ b.take (k - a.length) := by
  split
  · rw [List.take_append_of_le_length (by omega)]
  · rw [List.take_append, List.take_of_length_le (by omega)]

theorem read_short (N : Nat) : (∀ (t : T) (d b k : Nat), t.size ≤ N → t.shaped = true → t.word → t.deep ≤ d → b + t.size ≤ 4000 → k < t.enc.length → readT d (t.enc.take k) b = .bad 20) ∧
    (∀ (l : List T) (d b k : Nat), sizeL l ≤ N → shapedL l = true → wordL l → deepL l ≤ d → b + sizeL l ≤ 4000 → k < (encL l).length → many (readT d) l.length ((encL l).take k) b = .bad 20) := by
  induction N with
  | zero =>
    refine ⟨fun t d b k h => by have := size_pos t; omega, fun l d b k h _ _ _ _ hk => ?_⟩
    cases l with
    | nil => simp [encL] at hk
    | cons t l => have := size_pos t; simp only [sizeL] at h; omega
  | succ N ih =>
    have hT : ∀ (t : T) (d b k : Nat), t.size ≤ N + 1 → t.shaped = true → t.word → t.deep ≤ d → b + t.size ≤ 4000 → k < t.enc.length → readT d (t.enc.take k) b = .bad 20 := by
      intro t d b k hN hsh hw hd hb hkl
      rw [shaped_eq, Bool.and_eq_true] at hsh
      obtain ⟨hone, hsl⟩ := hsh
      have hz := size_eq t
      have hdp := deep_eq t
      have hhead := head_word hone hw (by omega)
      have hk := one_kind hone
      have hwl : wordL t.l := by cases t; exact hw.2
      obtain ⟨d, rfl⟩ : ∃ d', d = d' + 1 := ⟨d - 1, by omega⟩
      rw [readT_succ, if_neg (by omega)]
      rw [enc_eq] at hkl ⊢
      rcases Nat.eq_zero_or_pos k with rfl | hkp
      · rfl
      · obtain ⟨k, rfl⟩ : ∃ k', k = k' + 1 := ⟨k - 1, by omega⟩
        rw [List.take_succ_cons]
        simp only [List.length_cons, List.length_append] at hkl
        rw [take_app]
        by_cases hp : k < (putL t.head).length
        · rw [if_pos hp]
          simp only [tm.hd]
          rw [kind_byte hk.1 hk.2.1, if_neg (by omega), getL_short hhead hp]
        · rw [if_neg hp, hd_enc hk.1 hk.2.1 hhead]
          have he := head_eq t
          show body (readT d) t.k.toNat t.head _ (b + 1) = _
          unfold body
          rcases by_kind t hone with ⟨k2, ht, hs4⟩ | ⟨k5, ht⟩ | ⟨k4, ht, h41⟩ | ⟨n2, n5, n4, ht⟩
          · rw [if_pos (by omega)]
            rw [if_pos k2] at he
            have hl : t.l = [] := by rw [ht]; rfl
            have hs' : t.s.data.toList.length = t.s.size := by simp
            rw [he, if_neg (by omega), if_pos ?_]
            rw [he] at hkl hp
            rw [hl] at hkl ⊢
            simp only [encL, List.append_nil, List.length_nil, List.length_take] at hkl ⊢
            omega
          · have hs0 : t.s.data.toList = [] := by rw [ht]; rfl
            rw [if_neg (by omega), if_pos (by omega)]
            rw [if_neg (by omega), if_pos k5] at he
            rw [hs0] at hkl
            rw [he, hs0, List.nil_append, ih.2 t.l d (b + 1) _ (by omega) hsl hwl (by omega) (by omega) (by simp at hkl; rw [he] at hp hkl; omega)]
          · have hs0 : t.s.data.toList = [] := by rw [ht]; rfl
            rw [if_neg (by omega), if_neg (by omega), if_pos (by omega)]
            rw [hs0] at hkl
            have := ih.2 t.l d (b + 1) (k - (putL t.head).length) (by omega) hsl hwl (by omega) (by omega) (by simp at hkl; omega)
            rw [h41] at this
            rw [hs0, List.nil_append, this]
          · have hs0 : t.s.data.toList = [] := by rw [ht]; rfl
            have hl : t.l = [] := by rw [ht]; rfl
            rw [hs0, hl] at hkl
            simp [encL] at hkl
            omega
    refine ⟨hT, fun l d b k h hsl hwl hd hb hk => ?_⟩
    cases l with
    | nil => simp [encL] at hk
    | cons t l =>
      simp only [sizeL] at h hb
      simp only [shapedL, Bool.and_eq_true] at hsl
      simp only [deepL] at hd
      have hp := size_pos t
      simp only [encL, List.length_append] at hk
      simp only [encL, List.length_cons, many]
      rw [take_app]
      by_cases hkt : k < t.enc.length
      · rw [if_pos hkt, hT t d b k (by omega) hsl.1 hwl.1 (by omega) (by omega) hkt]
      · rw [if_neg hkt, (read_enc (N + 1)).1 t d b _ (by omega) hsl.1 hwl.1 (by omega) (by omega)]
        simp only []
        rw [ih.2 l d (b + t.size) _ (by omega) hsl.2 hwl.2 (by omega) (by omega) (by omega)]

theorem decode_short {t : T} (h : t.right = 0) (hw : t.word) {k : Nat} (hk : k < t.enc.length) : tm.decode (t.enc.take k) = .bad 20 := by
  obtain ⟨h1, h2, h3⟩ := right_ok h
  unfold tm.decode
  rw [(read_short t.size).1 t 12 0 k (Nat.le_refl _) h3 hw h2 (by omega) hk]
end Go.Proofs.Ytoenkkbcpafanaa.tm

/- The walk of the law TermBytes: it answers true and writes nothing that was there. -/

namespace Go.Proofs.Ytoenkkbcpafanaa.refEncs
set_option linter.unusedVariables false
set_option linter.unusedSimpArgs false
open Go.RowKit Go.Proofs.Ytoenkkbcpafanaa.base Go.Proofs.Ytoenkkbcpafanaa.tm Go.Proofs.Ytoenkkbcpafanaa.bytes Go.Proofs.Ytoenkkbcpafanaa.lies Go.Proofs.Ytoenkkbcpafanaa.rights Go.Proofs.Ytoenkkbcpafanaa.encs

end Go.Proofs.Ytoenkkbcpafanaa.refEncs

/- The walk of the law TermCuts: it answers true and writes nothing that was there. -/

namespace Go.Proofs.Ytoenkkbcpafanaa.cuts
set_option linter.unusedVariables false
set_option linter.unusedSimpArgs false
open Go.RowKit Go.Proofs.Ytoenkkbcpafanaa.base Go.Proofs.Ytoenkkbcpafanaa.tm Go.Proofs.Ytoenkkbcpafanaa.lies Go.Proofs.Ytoenkkbcpafanaa.rights Go.Proofs.Ytoenkkbcpafanaa.encs Go.Proofs.Ytoenkkbcpafanaa.refEncs

theorem decode_bad {s : ByteArray} {err : Int} (h : tm.decode s.data.toList = .bad err) (hs : s.size ≤ maxLen) (w : World) :
    Calls Try.prog 310 #[.string s] w fun e w' => e = .returned (.tuple #[.agg #[.int .i64 0, .int .u64 0, .string ⟨#[]⟩, .slice none 0 0], .int .i64 err]) ∧ Below w.heap.size w w' := by
  have := reads.decode_any s w hs
  rw [h] at this
  exact this.mono fun e w' ⟨hb, _, he⟩ => ⟨he, hb⟩
theorem decode_ok {s : ByteArray} {t : T} (h : tm.decode s.data.toList = .ok t) (hs : s.size ≤ maxLen) (w : World) :
    Calls Try.prog 310 #[.string s] w fun e w' => ∃ (A : Option Addr) (c : Nat), e = .returned (.tuple #[.agg #[.int .i64 t.k, .int .u64 t.n, .string t.s, .slice A t.l.length c], .int .i64 0]) ∧ Lies w' w'.heap.size t (.slice A t.l.length c) ∧ Below w.heap.size w w' := by
  have := reads.decode_any s w hs
  rw [h] at this
  exact this.mono fun e w' ⟨hb, A, c, he, hL⟩ => ⟨A, c, he, hL, hb⟩

theorem enc_size {t : T} (hR : t.right = 0) (hw : t.word) : t.enc.length ≤ 16044000 := by
  obtain ⟨h1, _, h3⟩ := right_ok hR
  have := enc_len t h3 hw
  omega

end Go.Proofs.Ytoenkkbcpafanaa.cuts

/- The walks of the laws TermDecodes and TermReads: they answer true and write nothing that was there. -/

namespace Go.Proofs.Ytoenkkbcpafanaa.decs
set_option linter.unusedVariables false
set_option linter.unusedSimpArgs false
open Go.RowKit Go.Proofs.Ytoenkkbcpafanaa.base Go.Proofs.Ytoenkkbcpafanaa.tm Go.Proofs.Ytoenkkbcpafanaa.lies Go.Proofs.Ytoenkkbcpafanaa.rights Go.Proofs.Ytoenkkbcpafanaa.encs Go.Proofs.Ytoenkkbcpafanaa.refEncs Go.Proofs.Ytoenkkbcpafanaa.cuts Go.Proofs.Ytoenkkbcpafanaa.refReads

end Go.Proofs.Ytoenkkbcpafanaa.decs

/- Pack, Unpack, the document's and the program's. -/

namespace Go.Proofs.Ytoenkkbcpafanaa.boxes
set_option linter.unusedVariables false
set_option linter.unusedSimpArgs false
open Go.RowKit Go.Proofs.Ytoenkkbcpafanaa.base Go.Proofs.Ytoenkkbcpafanaa.tm Go.Proofs.Ytoenkkbcpafanaa.bytes Go.Proofs.Ytoenkkbcpafanaa.lies Go.Proofs.Ytoenkkbcpafanaa.rights Go.Proofs.Ytoenkkbcpafanaa.encs Go.Proofs.Ytoenkkbcpafanaa.refEncs Go.Proofs.Ytoenkkbcpafanaa.copies Go.Proofs.Ytoenkkbcpafanaa.makes Go.Proofs.Ytoenkkbcpafanaa.reads Go.Proofs.Ytoenkkbcpafanaa.likes

/-- what is packed -/
def packT (k : Int) (t : T) : ByteArray × Int := if (sealT k t).2 = 0 then (⟨(sealT k t).1.enc.toArray⟩, 0) else (⟨#[]⟩, (sealT k t).2)
/-- what is unpacked -/
def unpackT (k : Int) (s : ByteArray) : T × Int := match tm.decode s.data.toList with
  | .bad err => (zT, err)
  | .ok t => openT k t

theorem seal_right {k : Int} {t : T} (h : (sealT k t).2 = 0) : (sealT k t).1.right = 0 := by
  unfold sealT at h ⊢
  by_cases h1 : t.right = 0
  · rw [if_neg (by simpa using h1)] at h ⊢
    by_cases h2 : (boxT k t).right = 0
    · rw [if_neg (by simpa using h2)]; exact h2
    · rw [if_pos h2] at h; exact absurd h h2
  · rw [if_pos h1] at h; exact absurd h h1

set_option maxRecDepth 100000 in
set_option maxHeartbeats 400000 in
theorem pack_any (k : Int) (t : T) (v : Value) (w : World) (hkk : 0 ≤ k ∧ k < 18446744073709551616) (hL : Lies w w.heap.size t v) :
    Calls Try.prog 178 #[.int .u64 k, T.val t v] w fun e w' => e = .returned (.tuple #[.string (packT k t).1, .int .i64 (packT k t).2]) ∧ Below w.heap.size w w' := by
  obtain ⟨A, c, xs, rfl, hk, hn, hs, hlc, hc, hr, hl⟩ := hL.open_
  have hL1 := hL.later (Nat.le_refl _) (cs t A c)
  have h1 := seal_any k t _ _ hkk hL1
  by_cases hE : (sealT k t).2 = 0
  · have hP : Hid (packT k t = (⟨(sealT k t).1.enc.toArray⟩, 0)) := lay (by unfold packT; rw [if_pos hE])
    have hR := seal_right hE
    generalize sealT k t = r at h1 hE hP hR
    go_enter Try.func178, Try.ntmps178
    go_wp2_with fail
    refine h1.mono ?_
    rintro e w1 ⟨hb1, A1, c1, rfl, hH1, hF1⟩
    rw [hE]
    have hz1 := hb1.size
    simp only [World.size_alloc] at hb1 hz1
    have hB1 := one_step (Below.refl _ _) _ hb1
    have h2 := encode_ok r.1 _ _ ((hH1.lies hF1.1 hF1.2.1 hF1.2.2 (Nat.le_refl _)).later (Nat.le_refl _) (cs r.1 A1 c1)) hR
    clear hE hR
    go_wp2_with fail
    refine h2.mono ?_
    rintro e w2 ⟨rfl, hb2⟩
    simp only [World.size_alloc] at hb2
    go_wp2_with fail
    go_ret2
    exact ⟨by rw [hP.out]; rfl, one_step hB1 _ hb2⟩
  · have hP : Hid (packT k t = (⟨#[]⟩, (sealT k t).2)) := lay (by unfold packT; rw [if_neg hE])
    generalize sealT k t = r at h1 hE hP
    have d1 : (r.2 != 0) = true := by simpa using hE
    clear hE
    go_enter Try.func178, Try.ntmps178
    go_wp2_with fail
    refine h1.mono ?_
    rintro e w1 ⟨hb1, A1, c1, rfl, hH1, hF1⟩
    have hz1 := hb1.size
    simp only [World.size_alloc] at hb1 hz1
    have hB1 := one_step (Below.refl _ _) _ hb1
    go_wp2_with fail
    go_ret2
    exact ⟨by rw [hP.out]; rfl, hB1.alloc hB1.size _⟩

set_option maxRecDepth 100000 in
set_option maxHeartbeats 400000 in
theorem unpack_any (k : Int) (s : ByteArray) (w : World) (hs : s.size ≤ maxLen) :
    Calls Try.prog 308 #[.int .u64 k, .string s] w (Ans w (unpackT k s)) := by
  have h1 := decode_any s (w.alloc (.cells #[.int .i64 0, .int .u64 0, .string ⟨#[]⟩, .slice none 0 0] 273)) hs
  have k0 := Blk.new w 273 #[.int .i64 0, .int .u64 0, .string ⟨#[]⟩, .slice none 0 0]
  unfold unpackT
  cases hq : tm.decode s.data.toList with
  | bad err =>
    rw [hq] at h1
    clear hq
    go_enter Try.func308, Try.ntmps308
    go_wp2_with fail
    refine h1.mono ?_
    rintro e w1 ⟨hb1, hne, rfl⟩
    have hz1 := hb1.size
    simp only [World.size_alloc] at hb1 hz1
    have hB1 := one_step (Below.refl _ _) _ hb1
    have d1 : (err != 0) = true := by simpa using hne
    clear hne
    have k1 := k0.below hb1 (by omega)
    have z0 := k1.cell 0
    have z1 := k1.cell 1
    have z2 := k1.cell 2
    have z3 := k1.cell 3
    simp at z0 z1 z2 z3
    have f0 := k1.frozen 0
    have f1 := k1.frozen 1
    have f2 := k1.frozen 2
    have f3 := k1.frozen 3
    have hw1 : w.heap.size < w1.heap.size := by omega
    go_wp2_with fail
    refine bodyPost_ret (v := .tuple #[T.val zT (.slice none 0 0), .int .i64 err]) (by simp [results, Try.results308, go_sem, z0, z1, z2, z3, hw1, show zT.k = 0 from rfl, show zT.n = 0 from rfl, show zT.s = ⟨#[]⟩ from rfl]) rfl ⟨?_, none, 0, rfl, Held.nil _ _ _, fits_z⟩
    exact (four_below (o := 0) hB1 (Nat.le_refl _) _ _ _ _).alloc (by rw [four_size]; omega) _
  | ok t =>
    rw [hq] at h1
    clear hq
    show Calls Try.prog 308 _ w (Ans w (openT k t))
    have ho := fun v wx hx => open_any k t v wx hx
    generalize openT k t = q at ho
    go_enter Try.func308, Try.ntmps308
    go_wp2_with fail
    refine h1.mono ?_
    rintro e w1 ⟨hb1, A1, c1, rfl, hL1⟩
    have hz1 := hb1.size
    simp only [World.size_alloc] at hb1 hz1
    have hB1 := one_step (Below.refl _ _) _ hb1
    have k1 := k0.below hb1 (by omega)
    have hw1 : w.heap.size < w1.heap.size := by omega
    have h2 := ho _ _ (hL1.later (Nat.le_refl _) (cs t A1 c1))
    go_wp2_with fail
    refine h2.mono ?_
    rintro e w2 ⟨hb2, A2, c2, rfl, hH2, hF2⟩
    have hz2 := hb2.size
    simp only [World.size_alloc] at hb2 hz2
    have hB2 := one_step hB1 _ hb2
    have k2 := (k1.alloc (cs t A1 c1)).below hb2 (by omega)
    have z0 := k2.cell 0
    have z1 := k2.cell 1
    have z2 := k2.cell 2
    have z3 := k2.cell 3
    simp at z0 z1 z2 z3
    have f0 := k2.frozen 0
    have f1 := k2.frozen 1
    have f2 := k2.frozen 2
    have f3 := k2.frozen 3
    have hw2 : w.heap.size < w2.heap.size := by omega
    go_wp2_with fail
    refine bodyPost_ret (v := .tuple #[T.val q.1 (.slice A2 q.1.l.length c2), .int .i64 q.2]) (by simp [results, Try.results308, go_sem, z0, z1, z2, z3, hw2]) rfl ⟨?_, A2, c2, rfl, ?_, hF2⟩
    · exact four_below (o := 0) hB2 (Nat.le_refl _) _ _ _ _
    · exact hH2.move (by simp; omega) (by simp) fun p p1 p2 => four_cell w2 w.heap.size 0 _ _ _ _ p (by simp at p1; omega)

end Go.Proofs.Ytoenkkbcpafanaa.boxes

/- What is asked of package node's own Term; the walk of NodeTerms; letheref06's Seal. -/

namespace Go.Proofs.Ytoenkkbcpafanaa.nodes
set_option linter.unusedVariables false
set_option linter.unusedSimpArgs false
open Go.RowKit Go.Proofs.Ytoenkkbcpafanaa.base Go.Proofs.Ytoenkkbcpafanaa.quotas Go.Proofs.Ytoenkkbcpafanaa.vers Go.Proofs.Ytoenkkbcpafanaa.tm Go.Proofs.Ytoenkkbcpafanaa.lies Go.Proofs.Ytoenkkbcpafanaa.copies

def TermIs : Prop := ∀ (a b c d e f h : Int) (lf : Bool) (es : List E) (ks : List K) (A : Option Addr) (cap : Nat) (A' : Option Addr) (cap' : Nat) (w : World), Es w w.heap.size es A cap → Ks w w.heap.size ks A' cap' →
  Calls Try.prog 177 #[.agg #[.int .i64 a, .int .i64 b, .int .i64 c, .int .i64 d, .int .i64 e, .int .i64 f, .int .i64 h], .agg #[.bool lf, .slice A es.length cap, .slice A' ks.length cap']] w (boxes.Ans w (termP a b c d e f h lf es ks))

end Go.Proofs.Ytoenkkbcpafanaa.nodes
