/- What package entry's Put and Over answer. -/
import Derived.Test.YtolngibmfffjcaaVerY


namespace Go.Proofs.Ytolngibmfffjcaa.vers
set_option linter.unusedVariables false
set_option linter.unusedSimpArgs false
open Go.RowKit Go.Proofs.Ytolngibmfffjcaa.base Go.Proofs.Ytolngibmfffjcaa.quotas

theorem renewed_int (s : ByteArray) (l : List V) (A : Option Addr) (cap : Nat) (k' : Int) (k : Nat) (x : V) (w : World) (hk' : k' = (k : Int)) (hv : Vs w w.heap.size l A cap) (hk : k ≤ l.length) (hx : x.fits) (hlen : (l.length + 1) * 40 ≤ 140737488355328) :
    Calls Try.prog 30 #[.agg #[.string s, .slice A l.length cap], .int .i64 k', .agg #[.int .i64 x.n, .string x.v, .string x.t]] w fun r w' => ∃ u u', r = .returned (.tuple #[.agg #[.string s, u], u']) ∧ OwnV w.heap.size w' (l.drop k ++ [x]) u ∧ OwnV w.heap.size w' (l.take k) u' ∧ (∀ g, u.ownBlock = some g → u'.ownBlock ≠ some g) ∧ Below w.heap.size w w' := by
  subst hk'
  exact renewed_any s l A cap k x w hv hk hx hlen

theorem nextP_zero {a b c d e f h : Int} {s : ByteArray} {l : List V} {v t : ByteArray} (h0 : (nextP a b c d e f h s l v t).2 = 0) : nbad a b c d e f h s l = 0 ∧ (nextP a b c d e f h s l v t).1 = ⟨noOf l, v, t⟩ ∧ noOf l ≤ 1073741824 := by
  unfold nextP at h0 ⊢
  by_cases hz : nbad a b c d e f h s l = 0
  · rw [if_neg (by simpa using hz)] at h0 ⊢
    by_cases ht : tb c d v t = true
    · rw [if_pos ht] at h0; simp at h0
    · rw [if_neg ht] at h0 ⊢
      by_cases hn : 1073741824 < noOf l
      · rw [if_pos hn] at h0; simp at h0
      · rw [if_neg hn]
        exact ⟨hz, rfl, by omega⟩
  · rw [if_pos hz] at h0
    exact absurd h0 hz
theorem addP_next (a b c d e f h : Int) (s : ByteArray) (l : List V) (v t : ByteArray) (kp : Int) :
    addP a b c d e f h s l v t kp = if (nextP a b c d e f h s l v t).2 ≠ 0 then badA (nextP a b c d e f h s l v t).2 else ⟨0, s, l.drop ((l.length : Int) + 1 - kp).toNat ++ [(nextP a b c d e f h s l v t).1], l.take ((l.length : Int) + 1 - kp).toNat⟩ := by
  unfold addP nextP
  by_cases hz : nbad a b c d e f h s l = 0
  · rw [if_neg (by simpa using hz), if_neg (show ¬ nbad a b c d e f h s l ≠ 0 by simpa using hz)]
    by_cases ht : tb c d v t = true
    · rw [if_pos (tb_iff.1 ht), if_pos ht]; rfl
    · rw [if_neg (fun h => ht (tb_iff.2 h)), if_neg ht]
      by_cases hn : 1073741824 < noOf l
      · rw [if_pos hn, if_pos hn]; rfl
      · rw [if_neg hn, if_neg hn]; rfl
  · rw [if_pos hz, if_pos (show nbad a b c d e f h s l ≠ 0 from hz), if_pos hz]

/-- how Put and Over answer: both lists are the call's own, and apart -/
def PutOwn (w : World) (r : Ad) (x : Ending) (w' : World) : Prop :=
  ∃ u u', x = .returned (.tuple #[.agg #[.string r.s, u], u', .int .i64 r.bad]) ∧ Below w.heap.size w w' ∧ OwnV w.heap.size w' r.k u ∧ OwnV w.heap.size w' r.d u' ∧ (∀ g, u.ownBlock = some g → u'.ownBlock ≠ some g)

/-- behind the call's beginning: its own boxes -/
def Px (w : World) (a b c d e f h : Int) (s : ByteArray) (u : Value) (wr : World) : Prop :=
  Bx w a b c d e f h s u wr ∧ Blk wr (w.heap.size + 2) 26 #[.string ⟨#[]⟩, .slice none 0 0]
theorem Px.new (w : World) (a b c d e f h : Int) (s : ByteArray) (u : Value) : Px w a b c d e f h s u (((w.alloc (.cells #[.int .i64 a, .int .i64 b, .int .i64 c, .int .i64 d, .int .i64 e, .int .i64 f, .int .i64 h] 23)).alloc (.cells #[.string s, u] 26)).alloc (.cells #[.string ⟨#[]⟩, .slice none 0 0] 26)) := by
  have k := Blk.new ((w.alloc (.cells #[.int .i64 a, .int .i64 b, .int .i64 c, .int .i64 d, .int .i64 e, .int .i64 f, .int .i64 h] 23)).alloc (.cells #[.string s, u] 26)) 26 #[.string ⟨#[]⟩, .slice none 0 0]
  simp only [World.size_alloc] at k
  exact ⟨(Bx.new w a b c d e f h s u).alloc _, k⟩
theorem Px.next {w wr w' : World} {a b c d e f h : Int} {s : ByteArray} {u : Value} (h1 : Px w a b c d e f h s u wr) (hb : Below wr.heap.size wr w') : Px w a b c d e f h s u w' :=
  ⟨h1.1.next hb, h1.2.below hb h1.2.lt⟩
theorem Px.size {w wr : World} {a b c d e f h : Int} {s : ByteArray} {u : Value} (h1 : Px w a b c d e f h s u wr) : w.heap.size + 2 < wr.heap.size := h1.2.lt
theorem Px.alloc {w wr : World} {a b c d e f h : Int} {s : ByteArray} {u : Value} (h1 : Px w a b c d e f h s u wr) (ob : Obj) : Px w a b c d e f h s u (wr.alloc ob) := h1.next ((Below.refl _ _).alloc (Nat.le_refl _) _)
theorem two_below {B g : Nat} {a w : World} (h : Below B a w) (hg : B ≤ g) (u v : Value) : Below B a ((w.setCell ⟨g, 0, none⟩ u).setCell ⟨g, 1, none⟩ v) := (h.setCell hg u).setCell hg v
theorem OwnV.two {lo : Nat} {w : World} {l : List V} {v : Value} (h : OwnV lo w l v) {g : Nat} (hg : g < lo) (x y : Value) : OwnV lo ((w.setCell ⟨g, 0, none⟩ x).setCell ⟨g, 1, none⟩ y) l v := (h.setCell hg x).setCell hg y
theorem OwnV.alloc {lo : Nat} {w : World} {l : List V} {v : Value} (h : OwnV lo w l v) (ob : Obj) : OwnV lo (w.alloc ob) l v := h.below ((Below.refl _ _).alloc (Nat.le_refl _) _)

set_option maxRecDepth 100000 in
set_option maxHeartbeats 400000 in
theorem put_own (a b c d e f h : Int) (s : ByteArray) (l : List V) (A : Option Addr) (cap : Nat) (v t : ByteArray) (w : World) (hv : Vs w w.heap.size l A cap) (hfit : v.size ≤ maxLen ∧ t.size ≤ maxLen) :
    Calls Try.prog 13 #[.agg #[.int .i64 a, .int .i64 b, .int .i64 c, .int .i64 d, .int .i64 e, .int .i64 f, .int .i64 h], .agg #[.string s, .slice A l.length cap], .string v, .string t] w (PutOwn w (addP a b c d e f h s l v t e)) := by
  have hC := Px.new w a b c d e f h s (.slice A l.length cap)
  have hsz0 := hC.size
  have hc := next_any a b c d e f h s l A cap v t _ (hv.at_world hC.1.below)
  have hok := fun h0 => nextP_zero (a := a) (b := b) (c := c) (d := d) (e := e) (f := f) (h := h) (s := s) (l := l) (v := v) (t := t) h0
  rw [addP_next]
  generalize nextP a b c d e f h s l v t = p at hc hok ⊢
  obtain ⟨⟨pn, pv, pt⟩, pe⟩ := p
  simp only [V.val] at hc hok ⊢
  by_cases h0 : pe = 0
  · subst h0
    obtain ⟨hz, hpx, hno⟩ := hok rfl
    cases hpx
    obtain ⟨hk, hl4, hle⟩ := nbad_zero hz
    have he : 1 ≤ e ∧ e ≤ 4 := hk.2.2.2.2.1
    have hx : (⟨noOf l, v, t⟩ : V).fits := by
      refine ⟨?_, hfit⟩
      have := lastV_in hz
      have := noOf_last l
      constructor <;> simp only <;> omega
    clear hok hno hk hz hfit
    rw [if_neg (by simp)]
    generalize noOf l = pn at hc hx ⊢
    obtain ⟨K, hK⟩ : ∃ K, K = ((l.length : Int) + 1 - e).toNat := ⟨_, rfl⟩
    rw [show ((l.length : Int) + 1 - e).toNat = K by omega]
    have hKl : K ≤ l.length := by omega
    have hKi := lay hK
    clear hK
    go_enter Try.func13, Try.ntmps13
    go_wp2_with fail
    refine hc.mono ?_
    rintro x w1 ⟨rfl, hb1⟩
    have I1 := (hC.next hb1)
    have I2 := I1.alloc (.cells #[.int .i64 pn, .string v, .string t] 39)
    clear hb1 hC hc
    have hs1 := I1.size
    obtain ⟨⟨⟨⟨c0, c1, c2, c3, c4, c5, c6⟩, l1, l2, b1⟩, ⟨e0, e1⟩, l3⟩, hR⟩ := id I1
    have z0 := hR.cell 0
    have z1 := hR.cell 1
    simp at z0 z1
    have f0 := hR.frozen 0
    have f1 := hR.frozen 1
    have V0 := Blk.new w1 39 #[.int .i64 pn, .string v, .string t]
    have v0 := V0.cell 0
    have v1 := V0.cell 1
    have v2 := V0.cell 2
    simp at v0 v1 v2
    go_wp2_with fail
    all_goals
      refine (renewed_int s l A cap _ K ⟨pn, v, t⟩ _ (by have := hKi.out; omega) (hv.at_world I2.1.below) hKl hx (by omega)).mono ?_
      rintro x w2 ⟨u, u', rfl, hu, hu', hap, hb2⟩
      clear c0 c1 c2 c3 c4 c5 c6 l1 l2 b1 e0 e1 l3 hR z0 z1 f0 f1
      clear V0 v0 v1 v2
      have I3 := I2.next hb2
      simp only [World.size_alloc] at hu hu' hb2
      obtain ⟨AX, nX, cX, rfl, hn1⟩ := hu.shape
      obtain ⟨AY, nY, cY, rfl, hn2⟩ := hu'.shape
      have I4 := I3.alloc (.cells #[.string s, .slice AX nX cX] 26)
      have hs2 := I3.size
      obtain ⟨⟨⟨⟨c0, c1, c2, c3, c4, c5, c6⟩, l1, l2, b1⟩, ⟨e0, e1⟩, l3⟩, hR⟩ := id I3
      have z0 := hR.cell 0
      have z1 := hR.cell 1
      simp at z0 z1
      have f0 := hR.frozen 0
      have f1 := hR.frozen 1
      have k5 := EBox.new w2 s (.slice AX nX cX)
      obtain ⟨⟨k0, k1⟩, k2⟩ := k5
      go_wp2_with fail
      have hw3 : w.heap.size + 2 < w1.heap.size + 1 := by omega
      refine bodyPost_ret (v := .tuple #[.agg #[.string s, .slice AX nX cX], .slice AY nY cY, .int .i64 0]) (by simp [results, Try.results13, go_sem, z0, z1, hs2]) rfl ⟨_, _, rfl, (two_below I3.1.below (by omega) _ _).alloc (by simp; omega) _, ((hu.two hw3 _ _).alloc _).more (by omega), ((hu'.two hw3 _ _).alloc _).more (by omega), hap⟩
  · rw [if_pos h0]
    have d1 : (pe != 0) = true := by simpa using h0
    clear hok hfit h0
    go_enter Try.func13, Try.ntmps13
    go_wp2_with fail
    refine hc.mono ?_
    rintro x w1 ⟨rfl, hb1⟩
    have I1 := (hC.next hb1)
    have I2 := I1.alloc (.cells #[.int .i64 pn, .string pv, .string pt] 39)
    clear hb1 hC hc
    have hs1 := I1.size
    obtain ⟨⟨⟨⟨c0, c1, c2, c3, c4, c5, c6⟩, l1, l2, b1⟩, ⟨e0, e1⟩, l3⟩, hR⟩ := id I1
    have z0 := hR.cell 0
    have z1 := hR.cell 1
    simp at z0 z1
    have f0 := hR.frozen 0
    have f1 := hR.frozen 1
    go_wp2_with fail
    refine bodyPost_ret (v := .tuple #[.agg #[.string ⟨#[]⟩, .slice none 0 0], .slice none 0 0, .int .i64 pe]) (by simp [results, Try.results13, go_sem, z0, z1, hs1]) rfl ⟨_, _, rfl, (two_below I1.1.below (by omega) _ _).alloc (by simp; omega) _, OwnV.nil _ _, OwnV.nil _ _, (fun g hg => by simp [Value.ownBlock] at hg)⟩

set_option maxRecDepth 100000 in
set_option maxHeartbeats 400000 in
theorem over_own (a b c d e f h : Int) (s : ByteArray) (l : List V) (A : Option Addr) (cap : Nat) (v t : ByteArray) (w : World) (hv : Vs w w.heap.size l A cap) (hfit : v.size ≤ maxLen ∧ t.size ≤ maxLen) :
    Calls Try.prog 15 #[.agg #[.int .i64 a, .int .i64 b, .int .i64 c, .int .i64 d, .int .i64 e, .int .i64 f, .int .i64 h], .agg #[.string s, .slice A l.length cap], .string v, .string t] w (PutOwn w (addP a b c d e f h s l v t 1)) := by
  have hC := Px.new w a b c d e f h s (.slice A l.length cap)
  have hsz0 := hC.size
  have hc := next_any a b c d e f h s l A cap v t _ (hv.at_world hC.1.below)
  have hok := fun h0 => nextP_zero (a := a) (b := b) (c := c) (d := d) (e := e) (f := f) (h := h) (s := s) (l := l) (v := v) (t := t) h0
  rw [addP_next]
  generalize nextP a b c d e f h s l v t = p at hc hok ⊢
  obtain ⟨⟨pn, pv, pt⟩, pe⟩ := p
  simp only [V.val] at hc hok ⊢
  by_cases h0 : pe = 0
  · subst h0
    obtain ⟨hz, hpx, hno⟩ := hok rfl
    cases hpx
    obtain ⟨hk, hl4, hle⟩ := nbad_zero hz
    have he : 1 ≤ e ∧ e ≤ 4 := hk.2.2.2.2.1
    have hx : (⟨noOf l, v, t⟩ : V).fits := by
      refine ⟨?_, hfit⟩
      have := lastV_in hz
      have := noOf_last l
      constructor <;> simp only <;> omega
    clear hok hno hk hz hfit
    rw [if_neg (by simp)]
    generalize noOf l = pn at hc hx ⊢
    obtain ⟨K, hK⟩ : ∃ K, K = l.length := ⟨_, rfl⟩
    rw [show ((l.length : Int) + 1 - 1).toNat = K by omega]
    have hKl : K ≤ l.length := by omega
    have hKi := lay hK
    clear hK
    go_enter Try.func15, Try.ntmps15
    go_wp2_with fail
    refine hc.mono ?_
    rintro x w1 ⟨rfl, hb1⟩
    have I1 := (hC.next hb1)
    have I2 := I1.alloc (.cells #[.int .i64 pn, .string v, .string t] 39)
    clear hb1 hC hc
    have hs1 := I1.size
    obtain ⟨⟨⟨⟨c0, c1, c2, c3, c4, c5, c6⟩, l1, l2, b1⟩, ⟨e0, e1⟩, l3⟩, hR⟩ := id I1
    have z0 := hR.cell 0
    have z1 := hR.cell 1
    simp at z0 z1
    have f0 := hR.frozen 0
    have f1 := hR.frozen 1
    have V0 := Blk.new w1 39 #[.int .i64 pn, .string v, .string t]
    have v0 := V0.cell 0
    have v1 := V0.cell 1
    have v2 := V0.cell 2
    simp at v0 v1 v2
    go_wp2_with fail
    all_goals
      refine (renewed_int s l A cap _ K ⟨pn, v, t⟩ _ (by have := hKi.out; omega) (hv.at_world I2.1.below) hKl hx (by omega)).mono ?_
      rintro x w2 ⟨u, u', rfl, hu, hu', hap, hb2⟩
      clear c0 c1 c2 c3 c4 c5 c6 l1 l2 b1 e0 e1 l3 hR z0 z1 f0 f1
      clear V0 v0 v1 v2
      have I3 := I2.next hb2
      simp only [World.size_alloc] at hu hu' hb2
      obtain ⟨AX, nX, cX, rfl, hn1⟩ := hu.shape
      obtain ⟨AY, nY, cY, rfl, hn2⟩ := hu'.shape
      have I4 := I3.alloc (.cells #[.string s, .slice AX nX cX] 26)
      have hs2 := I3.size
      obtain ⟨⟨⟨⟨c0, c1, c2, c3, c4, c5, c6⟩, l1, l2, b1⟩, ⟨e0, e1⟩, l3⟩, hR⟩ := id I3
      have z0 := hR.cell 0
      have z1 := hR.cell 1
      simp at z0 z1
      have f0 := hR.frozen 0
      have f1 := hR.frozen 1
      have k5 := EBox.new w2 s (.slice AX nX cX)
      obtain ⟨⟨k0, k1⟩, k2⟩ := k5
      go_wp2_with fail
      have hw3 : w.heap.size + 2 < w1.heap.size + 1 := by omega
      refine bodyPost_ret (v := .tuple #[.agg #[.string s, .slice AX nX cX], .slice AY nY cY, .int .i64 0]) (by simp [results, Try.results15, go_sem, z0, z1, hs2]) rfl ⟨_, _, rfl, (two_below I3.1.below (by omega) _ _).alloc (by simp; omega) _, ((hu.two hw3 _ _).alloc _).more (by omega), ((hu'.two hw3 _ _).alloc _).more (by omega), hap⟩
  · rw [if_pos h0]
    have d1 : (pe != 0) = true := by simpa using h0
    clear hok hfit h0
    go_enter Try.func15, Try.ntmps15
    go_wp2_with fail
    refine hc.mono ?_
    rintro x w1 ⟨rfl, hb1⟩
    have I1 := (hC.next hb1)
    have I2 := I1.alloc (.cells #[.int .i64 pn, .string pv, .string pt] 39)
    clear hb1 hC hc
    have hs1 := I1.size
    obtain ⟨⟨⟨⟨c0, c1, c2, c3, c4, c5, c6⟩, l1, l2, b1⟩, ⟨e0, e1⟩, l3⟩, hR⟩ := id I1
    have z0 := hR.cell 0
    have z1 := hR.cell 1
    simp at z0 z1
    have f0 := hR.frozen 0
    have f1 := hR.frozen 1
    go_wp2_with fail
    refine bodyPost_ret (v := .tuple #[.agg #[.string ⟨#[]⟩, .slice none 0 0], .slice none 0 0, .int .i64 pe]) (by simp [results, Try.results15, go_sem, z0, z1, hs1]) rfl ⟨_, _, rfl, (two_below I1.1.below (by omega) _ _).alloc (by simp; omega) _, OwnV.nil _ _, OwnV.nil _ _, (fun g hg => by simp [Value.ownBlock] at hg)⟩

theorem PutOwn.ans {w : World} {r : Ad} {x : Ending} {w' : World} (h : PutOwn w r x w') : PutAns w r x w' := by
  obtain ⟨u, u', e, hb, h1, h2, _⟩ := h
  exact ⟨u, u', e, hb, h1.hv, h2.hv⟩
theorem putIs : PutIs := fun a b c d e f h s l A cap v t w hv hfit => (put_own a b c d e f h s l A cap v t w hv hfit).mono fun _ _ h => h.ans
theorem overIs : OverIs := fun a b c d e f h s l A cap v t w hv hfit => (over_own a b c d e f h s l A cap v t w hv hfit).mono fun _ _ h => h.ans
end Go.Proofs.Ytolngibmfffjcaa.vers
