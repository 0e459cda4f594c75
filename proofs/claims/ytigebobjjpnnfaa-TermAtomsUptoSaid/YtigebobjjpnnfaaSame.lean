/- Same, the program's own: whether two terms are right and the same. -/
import Derived.Test.YtigebobjjpnnfaaAdd
import Derived.Test.YtigebobjjpnnfaaLike
namespace Go.Proofs.Ytigebobjjpnnfaa.tm
open Go.Proofs.Ytigebobjjpnnfaa.lies
mutual
def T.same : T → T → Bool
  | .mk k n s l, u => k == u.k && (n == u.n && (s.toList == u.s.toList && sameL l u.l))
def sameL : List T → List T → Bool
  | [], [] => true
  | t :: l, u :: m => t.same u && sameL l m
  | [], _ :: _ => false
  | _ :: _, [] => false
end
theorem same_eq (t u : T) : t.same u = (t.k == u.k && (t.n == u.n && (t.s.toList == u.s.toList && sameL t.l u.l))) := by cases t; rfl
theorem str_of_list {s u : ByteArray} (h : s.toList = u.toList) : s = u := by
  rw [tm.toList_eq, tm.toList_eq] at h
  apply ByteArray.ext
  exact Array.toList_inj.1 h
mutual
theorem same_refl : ∀ t : T, t.same t = true
  | .mk k n s l => by
    rw [same_eq]
    show (k == k && (n == n && (s.toList == s.toList && sameL l l))) = true
    rw [sameL_refl l]; simp
theorem sameL_refl : ∀ l : List T, sameL l l = true
  | [] => rfl
  | t :: l => by
    show (t.same t && sameL l l) = true
    rw [same_refl t, sameL_refl l]; rfl
end
mutual
theorem same_of : ∀ (t u : T), t.same u = true → t = u
  | .mk k n s l, .mk k' n' s' l', h => by
    rw [same_eq] at h
    simp only [Bool.and_eq_true, beq_iff_eq] at h
    obtain ⟨h1, h2, h3, h4⟩ := h
    have e1 : k = k' := h1
    have e2 : n = n' := h2
    have e3 : s = s' := str_of_list h3
    have e4 : l = l' := sameL_of l l' h4
    rw [e1, e2, e3, e4]
theorem sameL_of : ∀ (l m : List T), sameL l m = true → l = m
  | [], [], _ => rfl
  | t :: l, u :: m, h => by
    simp only [sameL, Bool.and_eq_true] at h
    rw [same_of t u h.1, sameL_of l m h.2]
  | [], _ :: _, h => by simp [sameL] at h
  | _ :: _, [], h => by simp [sameL] at h
end
theorem sameL_len {l m : List T} (h : l.length ≠ m.length) : sameL l m = false := by
  cases hq : sameL l m with
  | false => rfl
  | true => exact absurd (congrArg List.length (sameL_of l m hq)) h
end Go.Proofs.Ytigebobjjpnnfaa.tm

namespace Go.Proofs.Ytigebobjjpnnfaa.sames
open Go.RowKit Go.Proofs.Ytigebobjjpnnfaa.base Go.Proofs.Ytigebobjjpnnfaa.tm Go.Proofs.Ytigebobjjpnnfaa.lies Go.Proofs.Ytigebobjjpnnfaa.rights

def AlikeAt (N : Nat) : Prop := ∀ (t u : T) (x y : Value) (w : World), t.size ≤ N → Lies w w.heap.size t x → Lies w w.heap.size u y →
  Calls Try.prog 44 #[T.val t x, T.val u y] w fun e w' => e = .returned (.bool (t.same u)) ∧ Below w.heap.size w w'

theorem below_two' {w w1 w2 : World} (hb1 : Below w.heap.size w w1) {o o' : Obj} (h2 : Below ((w1.alloc o).alloc o').heap.size ((w1.alloc o).alloc o') w2) : Below w.heap.size w w2 :=
  ((hb1.alloc hb1.size o).alloc (by have := hb1.size; simp; omega) o').trans (h2.mono (by have := hb1.size; simp; omega))

/-- EqualFunc, at the loop's head -/
def EHead (W : World) (l m : List T) (i : Value) (wr : World) : Prop :=
  ∃ j : Nat, j ≤ l.length ∧ i = .int .i64 j ∧ Hid (sameL l m = sameL (l.drop j) (m.drop j)) ∧ Below W.heap.size W wr

theorem drop_step {l m : List T} {j : Nat} (h1 : j < l.length) (h2 : j < m.length) : sameL (l.drop j) (m.drop j) = (l[j].same m[j] && sameL (l.drop (j + 1)) (m.drop (j + 1))) := by
  rw [List.drop_eq_getElem_cons h1, List.drop_eq_getElem_cons h2]; rfl

set_option maxRecDepth 100000 in
set_option maxHeartbeats 400000 in
theorem equal_any (N : Nat) (hA : AlikeAt N) (l m : List T) (A A' : Option Addr) (c c' : Nat) (xs xs' : List Value) (w : World) (hN : sizeL l ≤ N) (h1 : l.length * 56 ≤ 140737488355328) (h2 : m.length * 56 ≤ 140737488355328)
    (hr : Rd w w.heap.size A xs) (hl : LiesL w w.heap.size l xs) (hr' : Rd w w.heap.size A' xs') (hl' : LiesL w w.heap.size m xs') :
    Calls Try.prog 58 #[.slice A l.length c, .slice A' m.length c', .func (.func 44) #[] #[]] w fun e w' => e = .returned (.bool (sameL l m)) ∧ Below w.heap.size w w' := by
  have HA := lay hA
  clear hA
  by_cases hlen : l.length = m.length
  · have d0 : ((l.length : Int) != (m.length : Int)) = false := by simp [hlen]
    have HL := lay hlen
    have hml : m.length ≤ l.length := by omega
    have hlm : l.length ≤ m.length := by omega
    clear hlen
    go_enter Try.func58, Try.ntmps58
    go_wp2_with fail
    go_loopw [17] (fun i wr => EHead w l m i wr) (fun i _ => l.length - (intOf i).toNat)
    case atStart => exact ⟨0, Nat.zero_le _, rfl, lay rfl, Below.refl _ _⟩
    case round =>
      obtain ⟨j, hj, rfl, HS, hb⟩ := hrel
      by_cases hlt : j < l.length
      · have hlt2 : j < m.length := by omega
        obtain ⟨b1, off1, A1, c1, rfl, hb1, hv1, x0, x1, x2, x3⟩ := at_cells (hr.below hb) (hl.below hb) hlt
        obtain ⟨b2, off2, A2, c2, rfl, hbb2, hv2, y0, y1, y2, y3⟩ := at_cells (hr'.below hb) (hl'.below hb) hlt2
        have hbw2 : b2 < wr.heap.size := by have := hb.size; omega
        have hg := size_get l j hlt
        have hL1 := (hv1.later hb.size (.cells #[.int .i64 l[j].k, .int .u64 l[j].n, .string l[j].s, .slice A1 l[j].l.length c1] 30)).later (Nat.le_refl _) (.cells #[.int .i64 m[j].k, .int .u64 m[j].n, .string m[j].s, .slice A2 m[j].l.length c2] 30)
        have hL2 := (hv2.later hb.size (.cells #[.int .i64 l[j].k, .int .u64 l[j].n, .string l[j].s, .slice A1 l[j].l.length c1] 30)).later (Nat.le_refl _) (.cells #[.int .i64 m[j].k, .int .u64 m[j].n, .string m[j].s, .slice A2 m[j].l.length c2] 30)
        have hcall := HA.out l[j] m[j] _ _ _ (by omega) hL1 hL2
        have HD := lay (drop_step hlt hlt2)
        clear hL1 hL2
        cases hq : l[j].same m[j] with
        | false =>
          rw [hq] at hcall HD
          clear hq
          go_wp2_with (go_at_call 44; refine hcall.mono ?_; rintro e w2 ⟨rfl, hb2⟩)
          go_ret
          exact ⟨ret_bool (by rw [HS.out, HD.out]; rfl), below_two' hb hb2⟩
        | true =>
          rw [hq] at hcall HD
          clear hq
          go_wp2_with (go_at_call 44; refine hcall.mono ?_; rintro e w2 ⟨rfl, hb2⟩)
          exact ⟨⟨j + 1, hlt, by go_num, lay (by rw [HS.out, HD.out]; rfl), below_two' hb hb2⟩, by simp [intOf]; omega⟩
      · have e1 : l.drop j = [] := List.drop_of_length_le (by omega)
        have e2 : m.drop j = [] := List.drop_of_length_le (by omega)
        rw [e1, e2] at HS
        clear e1 e2
        go_wp2_with fail
        go_ret
        exact ⟨ret_bool (by rw [HS.out]; rfl), hb⟩
  · have d0 : ((l.length : Int) != (m.length : Int)) = true := by rw [bne_iff_ne]; omega
    have HF := lay (sameL_len hlen)
    clear hlen
    go_enter Try.func58, Try.ntmps58
    go_wp2_with fail
    go_ret
    exact ⟨ret_bool (by rw [HF.out]), Below.refl _ _⟩

set_option maxRecDepth 100000 in
set_option maxHeartbeats 400000 in
theorem alike_step (N : Nat) (hA : AlikeAt N) : AlikeAt (N + 1) := by
  intro t u x y w hN hL hM
  obtain ⟨A, c, xs, rfl, hk, hn, hs, hlc, hc, hr, hl⟩ := hL.open_
  obtain ⟨A', c', xs', rfl, hk', hn', hs', hlc', hc', hr', hl'⟩ := hM.open_
  have HE := lay (same_eq t u)
  have hz := size_eq t
  have hcall := fun wx (g : ∀ p : Addr, p.block < w.heap.size → wx.cell? p = w.cell? p) (hw : w.heap.size ≤ wx.heap.size) => equal_any N hA t.l u.l A A' c c' xs xs' wx (by omega) hc hc' ((hr.keep g).more hw) (LiesL.more hw _ _ (LiesL.keep g _ _ hl)) ((hr'.keep g).more hw) (LiesL.more hw _ _ (LiesL.keep g _ _ hl'))
  have HC := Lib.hid hcall
  clear hcall hz hA
  cases hq1 : (t.k == u.k) with
  | false =>
    go_enter Try.func44, Try.ntmps44
    go_wp2_with fail
    go_ret
    exact ⟨ret_bool (by rw [HE.out, hq1]; rfl), ((Below.refl _ _).alloc (Nat.le_refl _) _).alloc (by simp) _⟩
  | true =>
    cases hq2 : (t.n == u.n) with
    | false =>
      go_enter Try.func44, Try.ntmps44
      go_wp2_with fail
      go_ret
      exact ⟨ret_bool (by rw [HE.out, hq1, hq2]; rfl), ((Below.refl _ _).alloc (Nat.le_refl _) _).alloc (by simp) _⟩
    | true =>
      cases hq3 : (t.s.toList == u.s.toList) with
      | false =>
        go_enter Try.func44, Try.ntmps44
        go_wp2_with fail
        go_ret
        exact ⟨ret_bool (by rw [HE.out, hq1, hq2, hq3]; rfl), ((Below.refl _ _).alloc (Nat.le_refl _) _).alloc (by simp) _⟩
      | true =>
        have H1 := lay hq1
        have H2 := lay hq2
        have H3 := lay hq3
        have hcw := HC.out ((w.alloc (.cells #[.int .i64 t.k, .int .u64 t.n, .string t.s, .slice A t.l.length c] 30)).alloc (.cells #[.int .i64 u.k, .int .u64 u.n, .string u.s, .slice A' u.l.length c'] 30)) (fun p hp => by rw [World.cell?_alloc_lt _ _ _ (by simp; omega), World.cell?_alloc_lt _ _ _ hp]) (by simp; omega)
        go_enter Try.func44, Try.ntmps44
        go_wp2_with (go_at_call 58; refine hcw.mono ?_; rintro e w2 ⟨rfl, hb2⟩)
        go_ret
        exact ⟨ret_bool (by rw [HE.out, H1.out, H2.out, H3.out]; rfl), below_two' (Below.refl _ _) hb2⟩

theorem alike_any (N : Nat) : AlikeAt N := by
  induction N with
  | zero => intro t u x y w h; have := size_pos t; omega
  | succ N ih => exact alike_step N ih
end Go.Proofs.Ytigebobjjpnnfaa.sames
