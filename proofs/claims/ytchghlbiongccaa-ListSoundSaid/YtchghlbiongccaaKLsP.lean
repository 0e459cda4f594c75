/- What a tree's pages are, one behind the other: least names, depths, how many. Pure. -/
import Derived.Test.YtchghlbiongccaaKLsG
import Derived.Test.YtchghlbiongccaaKTrV
import Derived.Laws.Slices


namespace Go.Proofs.Ytchghlbiongccaa.trees
set_option linter.unusedVariables false
set_option linter.unusedSimpArgs false
open Go.RowKit Go.Proofs.Ytchghlbiongccaa.base Go.Proofs.Ytchghlbiongccaa.vers Go.Proofs.Ytchghlbiongccaa.nodes Go.Proofs.Ytchghlbiongccaa.quotas

/-- what comes from the next page that stands so deep on -/
def dropTo (d : Nat) : List SP → List SP
  | [] => []
  | s :: l => if s.1 = d then s :: l else dropTo d l
/-- the least name below the first of these pages -/
def leastP : List SP → ByteArray
  | [] => ⟨#[]⟩
  | s :: l => if s.2.2.1 = true then lowL s.2.2.2.1 else leastP l
def hasLeaf (l : List SP) : Prop := ∃ s ∈ l, s.2.2.1 = true
def hasDeep (d : Nat) (l : List SP) : Prop := ∃ s ∈ l, s.1 = d
/-- the kids' least names are those below them -/
def KB (d : Nat) : List K → List SP → Prop
  | [], _ => True
  | k :: ks, l => hasDeep d l ∧ hasLeaf (dropTo d l) ∧ leastP (dropTo d l) = k.s ∧ KB d ks ((dropTo d l).drop 1)
def Good : List SP → Prop
  | [] => True
  | s :: l => KB (s.1 + 1) s.2.2.2.2 l ∧ Good l
theorem dropTo_skip {d : Nat} : ∀ {J : List SP} {l : List SP}, (∀ s ∈ J, s.1 ≠ d) → dropTo d (J ++ l) = dropTo d l
  | [], l, _ => rfl
  | s :: J, l, h => by
    rw [List.cons_append, dropTo, if_neg (h s List.mem_cons_self)]
    exact dropTo_skip fun s' hs => h s' (List.mem_cons_of_mem _ hs)
theorem leastP_leaf {s : SP} {l : List SP} (h : s.2.2.1 = true) : leastP (s :: l) = lowL s.2.2.2.1 := by rw [leastP, if_pos h]
theorem leastP_skip {s : SP} {l : List SP} (h : s.2.2.1 = false) : leastP (s :: l) = leastP l := by rw [leastP, if_neg (by rw [h]; decide)]
/-- the pages below kids, one behind the other -/
def flatK (ns : List P3) (h d : Nat) (ks : List K) : List SP := ks.flatMap fun k => match pageAt ns k.r with | none => [] | some y => seenP ns h k.r d y
theorem flatK_cons {ns : List P3} {h d : Nat} {k : K} {ks : List K} {y : P3} (hy : pageAt ns k.r = some y) : flatK ns h d (k :: ks) = seenP ns h k.r d y ++ flatK ns h d ks := by
  unfold flatK
  rw [List.flatMap_cons, hy]
theorem seenP_succ {ns : List P3} {h : Nat} {r : R} {d : Nat} {x : P3} {L : List PE} (t : Tree ns (h + 1) x L) : seenP ns (h + 1) r d x = (d, r, x) :: flatK ns h (d + 1) x.2.2 := by
  have e : belowP x = x.2.2 := by unfold belowP; rw [if_neg (by simp [t.1])]
  rw [seenP, e]
  rfl
theorem seenP_head (ns : List P3) (h : Nat) (r : R) (d : Nat) (x : P3) : ∃ l, seenP ns h r d x = (d, r, x) :: l := by
  cases h with
  | zero => exact ⟨[], rfl⟩
  | succ h => exact ⟨_, rfl⟩
/-- the depths below -/
theorem seenP_deep {ns : List P3} : ∀ (h : Nat) (r : R) (d : Nat) (x : P3) (L : List PE), Tree ns h x L → ∀ s ∈ (seenP ns h r d x).drop 1, d < s.1
  | 0, r, d, x, L, t, s, hs => by simp [seenP] at hs
  | h + 1, r, d, x, L, t, s, hs => by
    rw [seenP_succ t, List.drop_succ_cons, List.drop_zero] at hs
    obtain ⟨k, hk, hs⟩ := List.mem_flatMap.1 hs
    obtain ⟨y, L1, h1, h2, _⟩ := t.2.2.2.mem k hk
    simp only [h1] at hs
    obtain ⟨l, hl⟩ := seenP_head ns h k.r (d + 1) y
    rcases (by rw [hl] at hs; exact List.mem_cons.1 hs : s = (d + 1, k.r, y) ∨ s ∈ l) with rfl | h3
    · exact Nat.lt_succ_self d
    · have := seenP_deep h k.r (d + 1) y L1 h2 s (by rw [hl]; exact h3)
      omega
/-- the least name of a tree's pages -/
theorem least_seen {ns : List P3} : ∀ (h : Nat) (r : R) (d : Nat) (x : P3) (L : List PE) (Z : List SP), Tree ns h x L → 2 ≤ partsP x → leastP (seenP ns h r d x ++ Z) = lowL L ∧ hasLeaf (seenP ns h r d x ++ Z)
  | 0, r, d, x, L, Z, t, hp => by
    cases (show x = (true, L, []) from t)
    exact ⟨rfl, ⟨_, List.mem_cons_self, rfl⟩⟩
  | h + 1, r, d, x, L, Z, t, hp => by
    rw [seenP_succ t]
    obtain ⟨a, b, c, t⟩ := t
    obtain ⟨lf, es, ks⟩ := x
    simp only [] at a b c t
    subst a b
    cases ks with
    | nil => exact absurd rfl c
    | cons k ks =>
      obtain ⟨L1, L2, y, e, h1, h2, h3, h4, h5⟩ := t
      have ih := least_seen h k.r (d + 1) y L1 (flatK ns h (d + 1) ks ++ Z) h2 h4.1
      rw [List.cons_append, leastP_skip rfl, flatK_cons h1, List.append_assoc, ih.1, e, lowL_app L2 (h2.ne h4.1)]
      obtain ⟨s, hs, hl⟩ := ih.2
      exact ⟨rfl, s, List.mem_cons_of_mem _ hs, hl⟩
theorem kb_kids {ns : List P3} {h d : Nat} : ∀ (ks : List K) (L : List PE) (J Z : List SP), KidsOf ns (Tree ns h) ks L → (∀ s ∈ J, s.1 ≠ d) → KB d ks (J ++ (flatK ns h d ks ++ Z))
  | [], L, J, Z, t, hJ => trivial
  | k :: ks, L, J, Z, ⟨L1, L2, y, e, h1, h2, h3, h4, h5⟩, hJ => by
    obtain ⟨l, hl⟩ := seenP_head ns h k.r d y
    have hd : dropTo d (J ++ (flatK ns h d (k :: ks) ++ Z)) = seenP ns h k.r d y ++ (flatK ns h d ks ++ Z) := by
      rw [dropTo_skip hJ, flatK_cons h1, List.append_assoc, hl, List.cons_append, dropTo, if_pos rfl]
    have hls := least_seen h k.r d y L1 (flatK ns h d ks ++ Z) h2 h4.1
    refine ⟨?_, by rw [hd]; exact hls.2, by rw [hd, hls.1, h3], ?_⟩
    · exact ⟨(d, k.r, y), by rw [flatK_cons h1, hl]; simp, rfl⟩
    · rw [hd, hl, List.cons_append, List.drop_succ_cons, List.drop_zero]
      refine kb_kids ks L2 l Z h5 fun s hs => ?_
      have := seenP_deep h k.r d y L1 h2 s (by rw [hl]; exact hs)
      omega
theorem good_kids {ns : List P3} {h d : Nat} (ih : ∀ (r : R) (x : P3) (L : List PE) (Z : List SP), Tree ns h x L → Good Z → Good (seenP ns h r d x ++ Z)) : ∀ (ks : List K) (L : List PE) (Z : List SP), KidsOf ns (Tree ns h) ks L → Good Z → Good (flatK ns h d ks ++ Z)
  | [], L, Z, t, hZ => hZ
  | k :: ks, L, Z, ⟨L1, L2, y, e, h1, h2, h3, h4, h5⟩, hZ => by
    rw [flatK_cons h1, List.append_assoc]
    exact ih k.r y L1 _ h2 (good_kids ih ks L2 Z h5 hZ)
theorem good_seen {ns : List P3} : ∀ (h : Nat) (r : R) (d : Nat) (x : P3) (L : List PE) (Z : List SP), Tree ns h x L → Good Z → Good (seenP ns h r d x ++ Z)
  | 0, r, d, x, L, Z, t, hZ => by
    cases (show x = (true, L, []) from t)
    exact ⟨trivial, hZ⟩
  | h + 1, r, d, x, L, Z, t, hZ => by
    rw [seenP_succ t, List.cons_append]
    exact ⟨kb_kids x.2.2 L [] Z t.2.2.2 (fun s hs => by cases hs), good_kids (fun r x L Z t hZ => good_seen h r (d + 1) x L Z t hZ) x.2.2 L Z t.2.2.2 hZ⟩
/-- each leaf stands as deep as all, and has its two secrets if it is not the root -/
theorem seen_leaf {ns : List P3} : ∀ (h : Nat) (r : R) (d : Nat) (x : P3) (L : List PE), Tree ns h x L → (1 < d → 2 ≤ partsP x) → 1 ≤ d → ∀ s ∈ seenP ns h r d x, s.1 ≤ d + h ∧ 1 ≤ s.1 ∧ (s.2.2.1 = true → s.1 = d + h ∧ (1 < s.1 → 2 ≤ s.2.2.2.1.length))
  | 0, r, d, x, L, t, hp, hd, s, hs => by
    cases (show x = (true, L, []) from t)
    rw [seenP, List.mem_singleton] at hs
    subst hs
    exact ⟨Nat.le_refl _, hd, fun _ => ⟨rfl, fun h1 => by simpa [partsP] using hp h1⟩⟩
  | h + 1, r, d, x, L, t, hp, hd, s, hs => by
    rw [seenP_succ t, List.mem_cons] at hs
    rcases hs with rfl | hs
    · exact ⟨by show d ≤ _; omega, hd, fun h1 => by have := t.1; simp only [] at h1; rw [this] at h1; cases h1⟩
    · obtain ⟨k, hk, hs⟩ := List.mem_flatMap.1 hs
      obtain ⟨y, L1, h1, h2, h3, h4⟩ := t.2.2.2.mem k hk
      simp only [h1] at hs
      have := seen_leaf h k.r (d + 1) y L1 h2 (fun _ => h3) (by omega) s hs
      exact ⟨by have := this.1; omega, this.2.1, fun h5 => ⟨by have := (this.2.2 h5).1; omega, (this.2.2 h5).2⟩⟩
theorem seen_max {ns : List P3} : ∀ (h : Nat) (r : R) (d : Nat) (x : P3) (L : List PE), Tree ns h x L → ∃ s ∈ seenP ns h r d x, s.1 = d + h
  | 0, r, d, x, L, t => ⟨_, List.mem_singleton_self _, rfl⟩
  | h + 1, r, d, x, L, t => by
    rw [seenP_succ t]
    obtain ⟨a, b, c, t⟩ := t
    obtain ⟨lf, es, ks⟩ := x
    simp only [] at a b c t
    cases ks with
    | nil => exact absurd rfl c
    | cons k ks =>
      obtain ⟨L1, L2, y, e, h1, h2, h3, h4, h5⟩ := t
      obtain ⟨s, hs, he⟩ := seen_max h k.r (d + 1) y L1 h2
      exact ⟨s, List.mem_cons_of_mem _ (by rw [flatK_cons h1]; exact List.mem_append_left _ hs), by omega⟩
/-- how many pages -/
theorem pages_kids {ns : List P3} {h d : Nat} (ih : ∀ (r : R) (x : P3) (L : List PE), Tree ns h x L → 2 ≤ partsP x → ∃ n, (seenP ns h r d x).length + 1 ≤ 2 * n ∧ 2 * n ≤ L.length) : ∀ (ks : List K) (L : List PE), KidsOf ns (Tree ns h) ks L → ∃ n, (flatK ns h d ks).length + ks.length ≤ 2 * n ∧ 2 * n ≤ L.length
  | [], L, t => ⟨0, by simp [flatK], by omega⟩
  | k :: ks, L, ⟨L1, L2, y, e, h1, h2, h3, h4, h5⟩ => by
    obtain ⟨n1, a1, b1⟩ := ih k.r y L1 h2 h4.1
    obtain ⟨n2, a2, b2⟩ := pages_kids ih ks L2 h5
    refine ⟨n1 + n2, ?_, ?_⟩
    · rw [flatK_cons h1, List.length_append, List.length_cons]; omega
    · rw [e, List.length_append]; omega
theorem pages_seen {ns : List P3} : ∀ (h : Nat) (r : R) (d : Nat) (x : P3) (L : List PE), Tree ns h x L → 2 ≤ partsP x → ∃ n, (seenP ns h r d x).length + 1 ≤ 2 * n ∧ 2 * n ≤ L.length
  | 0, r, d, x, L, t, hp => by
    cases (show x = (true, L, []) from t)
    exact ⟨1, Nat.le_refl _, by simpa [partsP] using hp⟩
  | h + 1, r, d, x, L, t, hp => by
    obtain ⟨n, a1, b1⟩ := pages_kids (fun r x L t hp => pages_seen h r (d + 1) x L t hp) x.2.2 L t.2.2.2
    have hpl : 2 ≤ x.2.2.length := by simpa [partsP, t.1] using hp
    refine ⟨n, ?_, b1⟩
    rw [seenP_succ t, List.length_cons]
    omega
/-- each page's reference is that of a page of the heap -/
theorem seen_ref {ns : List P3} : ∀ (h : Nat) (r : R) (d : Nat) (x : P3) (L : List PE), Tree ns h x L → (∃ i, r = refOf i) → ∀ s ∈ seenP ns h r d x, ∃ i, s.2.1 = refOf i
  | 0, r, d, x, L, t, hr, s, hs => by
    rw [seenP, List.mem_singleton] at hs
    subst hs
    exact hr
  | h + 1, r, d, x, L, t, hr, s, hs => by
    rw [seenP_succ t, List.mem_cons] at hs
    rcases hs with rfl | hs
    · exact hr
    · obtain ⟨k, hk, hs⟩ := List.mem_flatMap.1 hs
      obtain ⟨y, L1, h1, h2, _⟩ := t.2.2.2.mem k hk
      simp only [h1] at hs
      refine seen_ref h k.r (d + 1) y L1 h2 ?_ s hs
      unfold pageAt at h1
      split at h1
      · rename_i hc; exact ⟨_, hc.2⟩
      · cases h1
end Go.Proofs.Ytchghlbiongccaa.trees

/- Pages in a list, from a place on. -/

namespace Go.Proofs.Ytchghlbiongccaa.trees
set_option linter.unusedVariables false
set_option linter.unusedSimpArgs false
open Go.RowKit Go.Proofs.Ytchghlbiongccaa.base Go.Proofs.Ytchghlbiongccaa.vers Go.Proofs.Ytchghlbiongccaa.nodes Go.Proofs.Ytchghlbiongccaa.quotas

theorem elemSn : Try.prog.elem 96 = 103 := by kernel_rfl
theorem infoSq : (Try.prog.info? 103).map (fun i => (i.size, i.bytes)) = some (8, 96) := by kernel_rfl
/-- the slice (A, l.length, c) holds the pages l, below block B -/
def Sl (w : World) (B : Nat) (l : List SN) (A : Option Addr) (c : Nat) : Prop := l.length ≤ c ∧ l.length * 96 ≤ 140737488355328 ∧ (A = none → c = 0) ∧ Rd w B A (cellsSn l) ∧ ∀ x ∈ l, Es w B x.2.2.es x.2.2.A x.2.2.c ∧ Ks w B x.2.2.ks x.2.2.Q x.2.2.m
section
variable {w w' : World} {B B' : Nat} {l : List SN} {A : Option Addr} {c : Nat}
theorem Sl.below (h : Sl w B l A c) (hb : Below B w w') : Sl w' B l A c := ⟨h.1, h.2.1, h.2.2.1, h.2.2.2.1.keep fun _ hp => hb.cell hp, fun x hx => ⟨(h.2.2.2.2 x hx).1.below hb, (h.2.2.2.2 x hx).2.below hb⟩⟩
theorem Sl.more (h : Sl w B l A c) (hB : B ≤ B') : Sl w B' l A c := ⟨h.1, h.2.1, h.2.2.1, h.2.2.2.1.more hB, fun x hx => ⟨(h.2.2.2.2 x hx).1.more hB, (h.2.2.2.2 x hx).2.more hB⟩⟩
theorem Sl.at_world {wr : World} (h : Sl w w.heap.size l A c) (hb : Below w.heap.size w wr) : Sl wr wr.heap.size l A c := (h.below hb).more hb.size
theorem Sl.nil (h : A = none → c = 0) : Sl w B [] A c := ⟨Nat.zero_le _, by simp, h, Rd.nil _ _ _, fun x hx => by cases hx⟩
theorem cellsSn_len : ∀ l : List SN, (cellsSn l).length = l.length * 8
  | [] => rfl
  | x :: l => by
    have h8 : (snc x).length = 8 := rfl
    rw [cellsSn, List.length_append, cellsSn_len l, h8, List.length_cons]; omega
theorem cellsSn_drop : ∀ (l : List SN) (k j : Nat), (cellsSn (l.drop k))[j]? = (cellsSn l)[k * 8 + j]?
  | l, 0, j => by simp
  | [], k + 1, j => by simp [cellsSn]
  | x :: l, k + 1, j => by
    have h8 : (snc x).length = 8 := rfl
    rw [List.drop_succ_cons, cellsSn_drop l k j, cellsSn, List.getElem?_append_right (by rw [h8]; omega), h8, show (k + 1) * 8 + j - 8 = k * 8 + j by omega]
theorem Sl.at_ (h : Sl w B l A c) {j : Nat} (hj : j < l.length) : ∃ b off, A = some ⟨b, off, none⟩ ∧ b < B ∧ w.cell? ⟨b, off + j * 8, none⟩ = some (.int .i64 (l[j].1 : Int)) ∧
    w.cell? ⟨b, off + j * 8 + 1, none⟩ = some (.int .u64 (l[j].2.1.k : Int)) ∧ w.cell? ⟨b, off + j * 8 + 2, none⟩ = some (.int .i64 l[j].2.1.g) ∧ w.cell? ⟨b, off + j * 8 + 3, none⟩ = some (.int .i64 l[j].2.1.o) ∧ w.cell? ⟨b, off + j * 8 + 4, none⟩ = some (.int .i64 l[j].2.1.n) ∧
    w.cell? ⟨b, off + j * 8 + 5, none⟩ = some (.bool l[j].2.2.lf) ∧ w.cell? ⟨b, off + j * 8 + 6, none⟩ = some (.slice l[j].2.2.A l[j].2.2.es.length l[j].2.2.c) ∧ w.cell? ⟨b, off + j * 8 + 7, none⟩ = some (.slice l[j].2.2.Q l[j].2.2.ks.length l[j].2.2.m) := by
  obtain ⟨g0, g1, g2, g3, g4, g5, g6, g7⟩ := cellsSn_at l hj
  have hr := h.2.2.2.1
  obtain ⟨b, off, rfl, hb, x0⟩ := hr _ _ g0
  have at' : ∀ i u, (cellsSn l)[i]? = some u → w.cell? ⟨b, off + i, none⟩ = some u := fun i u hi => by
    obtain ⟨b', off', e, _, hc⟩ := hr i u hi
    injection e with e
    injection e with e1 e2
    subst e1 e2
    exact hc
  exact ⟨b, off, rfl, hb, x0, at' _ _ g1, at' _ _ g2, at' _ _ g3, at' _ _ g4, at' _ _ g5, at' _ _ g6, at' _ _ g7⟩
theorem Sl.from_ {b off : Nat} (h : Sl w B l (some ⟨b, off, none⟩) c) (k : Nat) : Sl w B (l.drop k) (some ⟨b, off + k * 8, none⟩) (c - k) := by
  obtain ⟨h1, h2, h3, h4, h5⟩ := h
  have hl : (l.drop k).length = l.length - k := List.length_drop
  refine ⟨by omega, by omega, (fun e => by cases e), fun j u hj => ?_, fun x hx => h5 x (List.mem_of_mem_drop hx)⟩
  rw [cellsSn_drop] at hj
  obtain ⟨b', off', e, hb, hc⟩ := h4 _ _ hj
  injection e with e
  injection e with e1 e2
  subst e1 e2
  exact ⟨b, off + k * 8, rfl, hb, by rw [Nat.add_assoc]; exact hc⟩
/-- what s[k:] of pages is -/
theorem run_fromSn (hv : Sl w B l A c) (k : Nat) (hk : k ≤ l.length) :
    ∃ A' c', (∀ u : World, (Instr.slice 96 (.slice A l.length c) (some (.int .i64 (k : Int))) none none).run Try.prog u = .ok (.slice A' (l.drop k).length c') u) ∧ Sl w B (l.drop k) A' c' := by
  obtain ⟨i0, hi, hz⟩ : ∃ i0, Try.prog.info? 103 = some i0 ∧ i0.size = 8 := by
    have := infoSq
    cases h : Try.prog.info? 103 with
    | none => rw [h] at this; cases this
    | some i0 => rw [h] at this; simp at this; exact ⟨i0, rfl, this.1⟩
  have hrun : ∀ u : World, (Instr.slice 96 (.slice A l.length c) (some (.int .i64 (k : Int))) none none).run Try.prog u = .ok (sliced A k l.length c 8) u := fun u => by
    rw [run_slice_l u 96 A l.length c (by rw [elemSn]; exact Try.underlying96) .i64 k (by omega) (by omega)]
    simp [elemSn, sizeOf, typeInfo, hi, hz, Result.andThen]
  have hlen : (l.drop k).length = l.length - k := List.length_drop
  unfold sliced at hrun
  by_cases hck : c = k
  · have hl : l.length = k := by have := hv.1; omega
    have h0 : l.drop k = [] := List.drop_eq_nil_of_le (by omega)
    refine ⟨A, 0, fun u => ?_, by rw [h0]; exact Sl.nil (fun _ => rfl)⟩
    rw [hrun u, h0, hck, hl]
    simp
  · by_cases h0 : l = []
    · subst h0
      simp only [List.length_nil, Nat.le_zero] at hk
      subst hk
      refine ⟨_, c - 0, fun u => hrun u, Sl.nil ?_⟩
      intro e
      cases A with
      | none => exact hv.2.2.1 rfl
      | some ad => simp [hck] at e
    · obtain ⟨b, off, e, hb, _⟩ := hv.at_ (j := 0) (by cases l with | nil => exact absurd rfl h0 | cons _ _ => simp)
      subst e
      refine ⟨some ⟨b, off + k * 8, none⟩, c - k, fun u => ?_, hv.from_ k⟩
      rw [hrun u, hlen]
      simp [hck, add_plain]
end
def ps (l : List SN) : List SP := l.map psn
theorem dropTo_ps (d : Nat) : ∀ l : List SN, ∃ k, k ≤ l.length ∧ dropTo d (ps l) = ps (l.drop k)
  | [] => ⟨0, Nat.le_refl _, rfl⟩
  | s :: l => by
    by_cases h : s.1 = d
    · exact ⟨0, Nat.zero_le _, by show dropTo d (psn s :: ps l) = _; rw [dropTo, if_pos h]; rfl⟩
    · obtain ⟨k, h1, h2⟩ := dropTo_ps d l
      exact ⟨k + 1, by simpa using h1, by show dropTo d (psn s :: ps l) = _; rw [dropTo, if_neg h]; exact h2⟩
theorem ps_drop (l : List SN) (k : Nat) : ps (l.drop k) = (ps l).drop k := by unfold ps; rw [List.map_drop]
theorem ps_cons (s : SN) (l : List SN) : ps (s :: l) = psn s :: ps l := rfl

set_option maxRecDepth 100000 in
set_option maxHeartbeats 8000000 in
theorem from_ok (l : List SN) (A : Option Addr) (c d : Nat) (w : World) (hS : Sl w w.heap.size l A c) (hd : hasDeep d (ps l)) (hd9 : d ≤ 100) (h1d : ∀ s ∈ l, s.1 ≤ 100) :
    Calls Try.prog 110 #[.slice A l.length c, .int .i64 (d : Int)] w fun e w' => ∃ l' A' c', e = .returned (.slice A' l'.length c') ∧ Sl w w.heap.size l' A' c' ∧ ps l' = dropTo d (ps l) ∧ (∀ s ∈ l', s ∈ l) ∧ w' = w := by
  have HD := vers.lay (rfl : dropTo d (ps l) = dropTo d (ps l))
  generalize hT : dropTo d (ps l) = T at HD ⊢
  clear HD
  have HM := vers.lay (fun s hs => hs : ∀ s ∈ l, s ∈ l)
  go_enter Try.func110, Try.ntmps110
  go_wp2_with fail
  go_loopw [0] (fun v wr => ∃ (l' : List SN) (A' : Option Addr) (c' : Nat), v = .slice A' l'.length c' ∧ wr = w ∧ Hid (Sl w w.heap.size l' A' c') ∧ Hid (dropTo d (ps l') = T) ∧ Hid (hasDeep d (ps l')) ∧ Hid (∀ s ∈ l', s ∈ l)) (fun v _ => lenOf v)
  case atStart => exact ⟨l, A, c, rfl, rfl, vers.lay hS, vers.lay hT, vers.lay hd, HM⟩
  case round =>
    obtain ⟨l', A', c', rfl, rfl, hSl, hTl, hdl, hml⟩ := hrel
    cases l' with
    | nil => obtain ⟨s, hs, _⟩ := hdl.out; cases hs
    | cons s l2 =>
      have hs0 := h1d s (hml.out s List.mem_cons_self)
      obtain ⟨b, off, rfl, hb, x0, _⟩ := hSl.out.at_ (j := 0) (by simp)
      simp only [List.getElem_cons_zero, Nat.zero_mul, Nat.add_zero] at x0
      obtain ⟨A2, c2, hrun, hS2⟩ := run_fromSn hSl.out 1 (by simp)
      simp only [List.drop_succ_cons, List.drop_zero] at hrun hS2
      rw [show (((1 : Nat) : Int)) = 1 from rfl] at hrun
      by_cases he : s.1 = d
      · have HT2 := vers.lay (show ps (s :: l2) = T by rw [← hTl.out, ps_cons, dropTo, if_pos he])
        have HML := hml
        have HSL := hSl
        subst he
        obtain ⟨n, hn⟩ : ∃ n, n = (s :: l2).length := ⟨_, rfl⟩
        have HNP : 0 < n := by rw [hn]; simp
        simp only [← hn]
        have HN := vers.lay hn
        clear hrun hS2 hTl hdl hn
        go_wp2_with fail
        go_ret
        exact ⟨s :: l2, _, c', by rw [← HN.out]; rfl, HSL.out, HT2.out, HML.out, rfl⟩
      · have dn : ((s.1 : Int) == (d : Int)) = false := by rw [beq_eq_false_iff_ne]; omega
        have dn2 : decide ((s.1 : Int) = (d : Int)) = false := decide_eq_false (by omega)
        have dn3 : decide (s.1 = d) = false := decide_eq_false he
        have HT2 := vers.lay (show dropTo d (ps l2) = T by rw [← hTl.out, ps_cons, dropTo, if_neg he])
        have HD2 := vers.lay (show hasDeep d (ps l2) from by
          obtain ⟨z, hz, hzd⟩ := hdl.out
          rcases List.mem_cons.1 hz with rfl | hz
          · exact absurd hzd he
          · exact ⟨z, hz, hzd⟩)
        have HM2 := vers.lay (fun z hz => hml.out z (List.mem_cons_of_mem _ hz))
        have HS2 := vers.lay hS2
        obtain ⟨n, hn⟩ : ∃ n, n = (s :: l2).length := ⟨_, rfl⟩
        rw [← hn] at hrun
        have hn2 : n = l2.length + 1 := by rw [hn]; rfl
        simp only [← hn]
        have HN := vers.lay hn2
        have HNP : 0 < n := by omega
        have hcb := hSl.out.1
        clear hn hn2 he hSl hTl hdl hml hS2
        go_wp2_with fail
        refine ⟨⟨l2, A2, c2, rfl, by trivial, HS2, HT2, HD2, HM2⟩, ?_⟩
        have := HN.out
        simp [lenOf]
        omega

end Go.Proofs.Ytchghlbiongccaa.trees
