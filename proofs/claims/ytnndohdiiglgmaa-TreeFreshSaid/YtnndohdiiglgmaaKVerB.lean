/- Named and Right of the document, of anything; Last and At. -/
import Derived.Test.YtnndohdiiglgmaaKVerA
import Derived.Laws.StructEq
import Derived.Maps.AppendAt
import Derived.Laws.OwnMore
import Derived.Laws.AppendOwnNone
import Derived.RegionTactic
import Derived.Deep.RegionHeld3
import Derived.Deep.AppendLies


namespace Go.Proofs.Ytnndohdiiglgmaa.vers
set_option linter.unusedVariables false
set_option linter.unusedSimpArgs false
open Go.RowKit Go.Proofs.Ytnndohdiiglgmaa.base Go.Proofs.Ytnndohdiiglgmaa.quotas

theorem nbad_no {a b c d e f h : Int} (hk : ¬ ok a b c d e f h) (s : ByteArray) (l : List V) : nbad a b c d e f h s l = 40 := by unfold nbad; rw [if_neg hk]
theorem nbad_yes {a b c d e f h : Int} (hk : ok a b c d e f h) (s : ByteArray) (l : List V) : nbad a b c d e f h s l = if s.size = 0 then 4 else if b < s.size then 5 else if e < l.length then 50 else vbad c d 0 l := by unfold nbad; rw [if_pos hk]

/-- what is wrong with a secret -/
def rb (n : Int) (l : List V) : Int := if n = 0 ∧ l.length = 0 then 50 else n

def V.val (x : V) : Value := .agg #[.int .i64 x.n, .string x.v, .string x.t]
def zV : V := ⟨0, ⟨#[]⟩, ⟨#[]⟩⟩
/-- the last version, or none -/
def lastV (l : List V) : V × Bool := match l.getLast? with | some x => (x, true) | none => (zV, false)
/-- the first version of that number, or none -/
def atV (l : List V) (n : Int) : V × Bool := match l.find? (fun x => x.n == n) with | some x => (x, true) | none => (zV, false)

/-- behind a call's beginning: its own box holds the secret -/
theorem ebox (w : World) (s : ByteArray) (u : Value) : (w.alloc (.cells #[.string s, u] 47)).cell? ⟨w.heap.size, 0, none⟩ = some (.string s) ∧ (w.alloc (.cells #[.string s, u] 47)).cell? ⟨w.heap.size, 1, none⟩ = some u := by
  have k := Blk.new w 47 #[.string s, u]
  exact ⟨k.cell 0, k.cell 1⟩

theorem three_below {B g : Nat} {a w : World} (h : Below B a w) (hg : B ≤ g) (u v x : Value) : Below B a (((w.setCell ⟨g, 0, none⟩ u).setCell ⟨g, 1, none⟩ v).setCell ⟨g, 2, none⟩ x) :=
  ((h.setCell hg u).setCell hg v).setCell hg x
theorem atV_drop (l : List V) (n : Int) {j : Nat} (hj : j < l.length) : atV (l.drop j) n = if l[j].n == n then (l[j], true) else atV (l.drop (j + 1)) n := by
  rw [List.drop_eq_getElem_cons hj]
  unfold atV
  rw [List.find?_cons]
  cases l[j].n == n <;> rfl
theorem atV_end (l : List V) (n : Int) {j : Nat} (hj : l.length ≤ j) : atV (l.drop j) n = (zV, false) := by
  rw [List.drop_eq_nil_of_le hj]; rfl
/-- At, at a round's head -/
def AHead (w : World) (l : List V) (n : Int) (s : ByteArray) (u : Value) (x : Value) (wr : World) : Prop :=
  ∃ j : Nat, j ≤ l.length ∧ x = .int .i64 j ∧ Hid (atV l n = atV (l.drop j) n) ∧ (wr.cell? ⟨w.heap.size, 0, none⟩ = some (.string s) ∧ wr.cell? ⟨w.heap.size, 1, none⟩ = some u) ∧ Blk wr (w.heap.size + 1) 137 #[.int .i64 0, .string ⟨#[]⟩, .string ⟨#[]⟩] ∧ w.heap.size + 1 < wr.heap.size ∧ Below w.heap.size w wr

end Go.Proofs.Ytnndohdiiglgmaa.vers

/- LikeVersions, Like and Copy of the document. -/

namespace Go.Proofs.Ytnndohdiiglgmaa.vers
set_option linter.unusedVariables false
set_option linter.unusedSimpArgs false
open Go.RowKit Go.Proofs.Ytnndohdiiglgmaa.base Go.Proofs.Ytnndohdiiglgmaa.quotas

theorem ret_bool {a b : Bool} (h : a = b) : Ending.returned (.bool a) = .returned (.bool b) := by rw [h]
theorem bytes_eq {a b : ByteArray} (h : a = b) : (a.toList == b.toList) = true := by rw [h]; simp
theorem bytes_ne {a b : ByteArray} (h : ¬ a = b) : (a.toList == b.toList) = false := by
  rw [beq_eq_false_iff_ne]
  intro e
  apply h
  apply ByteArray.ext
  apply Array.toList_inj.1
  rwa [ByteArray.toList_eq, ByteArray.toList_eq] at e
theorem take_next {l m : List V} {j : Nat} (h : l.take j = m.take j) (hl : j < l.length) (hm : j < m.length) (e : l[j] = m[j]) : l.take (j + 1) = m.take (j + 1) := by
  rw [List.take_succ_eq_append_getElem hl, List.take_succ_eq_append_getElem hm, h, e]
theorem ne_at {l m : List V} {j : Nat} (hl : j < l.length) (hm : j < m.length) (e : l[j] ≠ m[j]) : decide (l = m) = false := by
  rw [decide_eq_false_iff_not]
  rintro rfl
  exact e rfl
def KHead (w : World) (l m : List V) (x : Value) (wr : World) : Prop := ∃ j : Nat, j ≤ l.length ∧ x = .int .i64 j ∧ Hid (l.take j = m.take j) ∧ Below w.heap.size w wr

set_option maxRecDepth 100000 in
set_option maxHeartbeats 400000 in
theorem likeVs_any (l m : List V) (A A' : Option Addr) (cap cap' : Nat) (w : World) (hv : Vs w w.heap.size l A cap) (hv' : Vs w w.heap.size m A' cap') :
    Calls Try.prog 100 #[.slice A l.length cap, .slice A' m.length cap'] w fun x w' => x = .returned (.bool (decide (l = m))) ∧ Below w.heap.size w w' := by
  have hlen := len_in hv
  have hlen' := len_in hv'
  by_cases hl : l.length = m.length
  · go_enter Try.func100, Try.ntmps100
    go_wp2_with fail
    go_loopw [13] (fun x wr => KHead w l m x wr) (fun x _ => l.length - (intOf x).toNat)
    case atStart => exact ⟨0, Nat.zero_le _, rfl, lay rfl, Below.refl _ _⟩
    case round =>
      obtain ⟨j, hj, rfl, hV, hb⟩ := hrel
      by_cases hlt : j < l.length
      · have hlt' : j < m.length := by omega
        obtain ⟨bk, off, rfl, hbk, v0, v1, v2⟩ := (hv.below hb).at_ hlt
        obtain ⟨bk', off', rfl, hbk', y0, y1, y2⟩ := (hv'.below hb).at_ hlt'
        have k1 : (0 : Int) ≤ (j : Int) := by omega
        have k2 : (j : Int) < (l.length : Int) := by omega
        have k3 : (j : Int) < (m.length : Int) := by omega
        go_wp2_with fail
        by_cases g1 : l[j].n = m[j].n
        · have d1 : (l[j].n == m[j].n) = true := by simp [g1]
          by_cases g2 : l[j].v = m[j].v
          · have d2 := bytes_eq g2
            by_cases g3 : l[j].t = m[j].t
            · have d3 := bytes_eq g3
              have he : Hid (l[j] = m[j]) := lay (by
                cases hx : l[j]; cases hy : m[j]
                rw [hx, hy] at g1 g2 g3
                simp only at g1 g2 g3
                rw [g1, g2, g3])
              clear g1 g2 g3
              go_quiet (fail)
              go_wp2_with fail
              exact ⟨⟨j + 1, hlt, by go_num, lay (take_next hV.out hlt hlt' he.out), hb.trans ⟨rfl, rfl, rfl, Nat.le_refl _, fun _ _ => rfl⟩⟩, by simp [intOf]; omega⟩
            · have d3 := bytes_ne g3
              have he : Hid (l[j] ≠ m[j]) := lay (fun e => g3 (by rw [e]))
              clear g1 g2 g3
              go_quiet (fail)
              go_wp2_with fail
              go_ret
              exact ⟨ret_bool (ne_at hlt hlt' he.out).symm, hb.trans ⟨rfl, rfl, rfl, Nat.le_refl _, fun _ _ => rfl⟩⟩
          · have d2 := bytes_ne g2
            have he : Hid (l[j] ≠ m[j]) := lay (fun e => g2 (by rw [e]))
            clear g1 g2
            go_quiet (fail)
            go_wp2_with fail
            go_ret
            exact ⟨ret_bool (ne_at hlt hlt' he.out).symm, hb.trans ⟨rfl, rfl, rfl, Nat.le_refl _, fun _ _ => rfl⟩⟩
        · have d1 : (l[j].n == m[j].n) = false := by simpa using g1
          have he : Hid (l[j] ≠ m[j]) := lay (fun e => g1 (by rw [e]))
          clear g1
          go_quiet (fail)
          go_wp2_with fail
          go_ret
          exact ⟨ret_bool (ne_at hlt hlt' he.out).symm, hb.trans ⟨rfl, rfl, rfl, Nat.le_refl _, fun _ _ => rfl⟩⟩
      · have he : Hid (l = m) := lay (by
          have h1 := hV.out
          rwa [List.take_of_length_le (by omega), List.take_of_length_le (by omega)] at h1)
        go_wp2_with fail
        go_ret
        exact ⟨ret_bool (decide_eq_true he.out).symm, hb⟩
  · have hd : ((l.length : Int) != (m.length : Int)) = true := by simp; omega
    go_enter Try.func100, Try.ntmps100
    go_wp2_with fail
    all_goals (go_ret; exact ⟨ret_bool (by rw [eq_comm, decide_eq_false_iff_not]; rintro rfl; exact hl rfl), Below.refl _ _⟩)
end Go.Proofs.Ytnndohdiiglgmaa.vers

/- A list of versions that the call owns; append onto it, of versions from anywhere. -/

namespace Go.Proofs.Ytnndohdiiglgmaa.vers
set_option linter.unusedVariables false
set_option linter.unusedSimpArgs false
open Go.RowKit Go.Proofs.Ytnndohdiiglgmaa.base Go.Proofs.Ytnndohdiiglgmaa.quotas

theorem infoV : (Try.prog.info? 137).map (fun i => (i.zero, i.size, i.bytes)) = some (some (.agg #[.int .i64 0, .string ⟨#[]⟩, .string ⟨#[]⟩]), 3, 40) := by kernel_rfl

/-- the slice v, built in blocks from lo on, holds the versions l -/
def OwnV (lo : Nat) (w : World) (l : List V) (v : Value) : Prop := w.ownsRow lo 137 3 v l.length (cellsV l) ∧ l.length * 40 ≤ 140737488355328 ∧ ∀ x ∈ l, x.fits

section
variable {lo : Nat} {w w' : World} {l : List V} {v : Value}
theorem OwnV.nil (lo : Nat) (w : World) : OwnV lo w [] (.slice none 0 0) := ⟨⟨rfl, .inl ⟨rfl, rfl⟩⟩, by simp, fun x h => by cases h⟩
theorem OwnV.empty (lo : Nat) (w : World) (h : lo ≤ w.heap.size) : OwnV lo (w.alloc (.cells #[] 137)) [] (.slice (some ⟨w.heap.size, 0, none⟩) 0 0) :=
  ⟨⟨rfl, .inr ⟨w.heap.size, 0, #[], rfl, h, heap_alloc_new w _, Nat.le_refl _, Nat.zero_le _, rfl, rfl⟩⟩, by simp, fun x h => by cases h⟩
theorem OwnV.own (h : OwnV lo w l v) : ∀ k, v.ownBlock = some k → lo ≤ k ∧ k < w.heap.size := h.1.lt
theorem OwnV.kept (h : OwnV lo w l v) {row : Option Nat} (hg : w.grownBy w' row) (hr : ∀ g, row = some g → v.ownBlock ≠ some g) : OwnV lo w' l v := by
  refine ⟨h.1.kept hg ?_, h.2⟩
  cases hv : v.ownBlock with
  | none => exact .inl rfl
  | some k => exact .inr fun e => hr k e.symm hv
theorem OwnV.below (h : OwnV lo w l v) (hb : Below w.heap.size w w') : OwnV lo w' l v :=
  h.kept (row := none) (grown_below (World.grownBy.refl w none) hb) (fun g e => by cases e)
theorem OwnV.form (h : OwnV lo w l v) : ∃ A c, v = .slice A l.length c ∧ l.length ≤ c := by
  rcases h.1.2 with ⟨rfl, hn⟩ | ⟨g, cap, cur, rfl, _, _, hc, _⟩
  · exact ⟨none, 0, by rw [hn], by omega⟩
  · exact ⟨_, cap, rfl, hc⟩
theorem OwnV.vs (h : OwnV lo w l v) : ∃ A c, v = .slice A l.length c ∧ Vs w w.heap.size l A c ∧ ∀ b off, A = some ⟨b, off, none⟩ → lo ≤ b := by
  obtain ⟨h1, h2, h3⟩ := h
  rcases h1.2 with ⟨rfl, hn⟩ | ⟨g, cap, cur, rfl, hg, hb, hc, _, hs, ht⟩
  · obtain rfl := List.eq_nil_of_length_eq_zero hn
    exact ⟨none, 0, rfl, ⟨Nat.le_refl _, by simp, fun _ => rfl, Rd.nil _ _ _, h3⟩, fun b off e => by cases e⟩
  · have hlt : g < w.heap.size := Blk.lt (t := 137) (cs := cur) hb
    refine ⟨_, cap, rfl, ⟨hc, h2, (fun e => by cases e), Blk.rdTake (t := 137) (cur := cur) (n := l.length * 3) hb (by simpa using ht) hlt, h3⟩, fun b off e => ?_⟩
    cases e
    exact hg
end

/-- append of versions that lie anywhere -/
theorem wp_append_vs {o : Oper} {a : Act} {K : Act → World → Prop} {Q : Exit → Act → World → Prop} {w : World} (s x : Operand)
    (ho : o.op = .call { callee := .builtin .append, args := #[s, x], argTypes := #[45, 45] })
    {lo B : Nat} {v : Value} {l m : List V} (hB : OwnV lo w l v) (hs : a.eval s = v) (hlo : lo ≤ w.heap.size) {A : Option Addr} {n c : Nat} (hx : a.eval x = .slice A n c) (hn : n = m.length) (hv : Vs w B m A c)
    (hlen : (l.length + m.length) * 40 ≤ 140737488355328)
    (h : ∀ v' w', OwnV lo w' (l ++ m) v' → w.grownBy w' v.ownBlock → (v'.ownBlock = v.ownBlock ∨ v'.ownBlock = some w.heap.size) → K (a.put o.dst v') w') : o.wp Try.prog a w K Q := by
  subst hn
  obtain ⟨i0, hi0, hz0, hz1, hz2⟩ := info_parts infoV
  obtain ⟨h1, h2, h3⟩ := hB
  have hfit : ∀ y ∈ l ++ m, y.fits := fun y hy => by
    rcases List.mem_append.1 hy with e | e
    · exact h3 y e
    · exact hv.2.2.2.2 y e
  cases A with
  | none =>
    obtain rfl := hv.2.2.1 rfl
    obtain rfl := List.eq_nil_of_length_eq_zero (Nat.le_zero.1 hv.1)
    have hrun := run_append_owned_none (P := Try.prog) (w := w) lo 45 o.type 137 i0 3 Try.underlying45 hi0 v l.length (cellsV l) h1
    have hx' : a.eval x = .slice none 0 0 := hx
    unfold Oper.wp
    simp [execOp, ho, resolve, invoke, builtin, hs, hx', hrun, Result.andThen]
    exact h _ _ (by rw [List.append_nil]; exact ⟨h1, h2, h3⟩) (World.grownBy.refl w _) (.inl rfl)
  | some ad =>
    obtain ⟨v', w', hr, k2, k3, _, k5⟩ := run_append_own_at (P := Try.prog) w lo 45 o.type 137 i0 _ 3 40 Try.underlying45 hi0 hz0 hz1 hz2 rfl (by decide) v l.length (cellsV l) h1 ad m.length c (cellsV m) (by rw [cellsV_len]; omega)
      (fun j u hj => by
        obtain ⟨b, off, e, hb, hc⟩ := hv.2.2.2.1 j u hj
        cases e
        rw [add_plain]
        exact hc) (cellsV_one m) (by unfold maxLen; omega) hlen hlo
    unfold Oper.wp execOp
    simp only [ho, resolve, invoke, builtin, Sem.run_bind, Sem.run_pure, Result.andThen_ok, List.map_toArray, List.map_cons, List.map_nil, hs, hx, hr]
    exact h v' w' ⟨by rw [cellsV_app, List.length_append]; exact k2, by rw [List.length_append]; exact hlen, hfit⟩ k3 k5
theorem wpList_append_vs {ops : Array Oper} {rest : List Oper} {o : Oper} {a : Act} {Q : Exit → Act → World → Prop} {w : World} (hgd : o.guard = none) (s x : Operand)
    (ho : o.op = .call { callee := .builtin .append, args := #[s, x], argTypes := #[45, 45] })
    {lo B : Nat} {v : Value} {l m : List V} (hB : OwnV lo w l v) (hs : a.eval s = v) (hlo : lo ≤ w.heap.size) {A : Option Addr} {n c : Nat} (hx : a.eval x = .slice A n c) (hn : n = m.length) (hv : Vs w B m A c)
    (hlen : (l.length + m.length) * 40 ≤ 140737488355328)
    (h : ∀ v' w', OwnV lo w' (l ++ m) v' → w.grownBy w' v.ownBlock → (v'.ownBlock = v.ownBlock ∨ v'.ownBlock = some w.heap.size) → wpList Try.prog ops Q rest (a.put o.dst v') w') : wpList Try.prog ops Q (o :: rest) a w :=
  wpList_plain hgd fun _ hK => wp_append_vs s x ho hB hs hlo hx hn hv hlen fun v' w' h2 h3 h4 => hK _ _ (h v' w' h2 h3 h4)
theorem step_append_vs {ops : Array Oper} {o : Oper} {a : Act} {K : Act → World → Prop} {Q : Exit → Act → World → Prop} {E : Prop} {w : World} (hgd : o.guard = none) (s x : Operand)
    (ho : o.op = .call { callee := .builtin .append, args := #[s, x], argTypes := #[45, 45] })
    {lo B : Nat} {v : Value} {l m : List V} (hB : OwnV lo w l v) (hs : a.eval s = v) (hlo : lo ≤ w.heap.size) {A : Option Addr} {n c : Nat} (hx : a.eval x = .slice A n c) (hn : n = m.length) (hv : Vs w B m A c)
    (hlen : (l.length + m.length) * 40 ≤ 140737488355328)
    (h : ∀ v' w', OwnV lo w' (l ++ m) v' → w.grownBy w' v.ownBlock → (v'.ownBlock = v.ownBlock ∨ v'.ownBlock = some w.heap.size) → K (a.put o.dst v') w') :
    if Region.wanted o (yielded ops a.tmps) = true then Oper.wp Try.prog o a w K Q else E := by
  have hw : Region.wanted o (yielded ops a.tmps) = true := by simp [Region.wanted, hgd]
  rw [if_pos hw]
  exact wp_append_vs s x ho hB hs hlo hx hn hv hlen h
end Go.Proofs.Ytnndohdiiglgmaa.vers

/- Like and Copy of the document. -/

namespace Go.Proofs.Ytnndohdiiglgmaa.vers
set_option linter.unusedVariables false
set_option linter.unusedSimpArgs false
open Go.RowKit Go.Proofs.Ytnndohdiiglgmaa.base Go.Proofs.Ytnndohdiiglgmaa.quotas

set_option maxRecDepth 100000 in
set_option maxHeartbeats 400000 in
theorem like_any (s s' : ByteArray) (l m : List V) (A A' : Option Addr) (cap cap' : Nat) (w : World) (hv : Vs w w.heap.size l A cap) (hv' : Vs w w.heap.size m A' cap') :
    Calls Try.prog 63 #[.agg #[.string s, .slice A l.length cap], .agg #[.string s', .slice A' m.length cap']] w fun x w' => x = .returned (.bool (decide (s = s') && decide (l = m))) ∧ Below w.heap.size w w' := by
  have hw2 : Below w.heap.size w ((w.alloc (.cells #[.string s, .slice A l.length cap] 47)).alloc (.cells #[.string s', .slice A' m.length cap'] 47)) := ((Below.refl _ _).alloc (Nat.le_refl _) _).alloc (by simp) _
  have hc := likeVs_any l m A A' cap cap' _ ((hv.below hw2).more hw2.size) ((hv'.below hw2).more hw2.size)
  by_cases hs : s = s'
  · have d1 := bytes_eq hs
    have e1 : decide (s = s') = true := decide_eq_true hs
    rw [e1]
    clear hs e1
    go_enter Try.func63, Try.ntmps63
    go_wp2_with fail
    refine hc.mono ?_
    rintro x w1 ⟨rfl, hb1⟩
    go_wp2_with fail
    go_ret
    exact ⟨rfl, hw2.trans (hb1.mono hw2.size)⟩
  · have d1 := bytes_ne hs
    have e1 : decide (s = s') = false := decide_eq_false hs
    rw [e1]
    clear hs e1
    go_enter Try.func63, Try.ntmps63
    go_wp2_with fail
    go_ret
    exact ⟨rfl, hw2⟩

theorem Blk.grown {w w' : World} {g : Nat} {t : TypeId} {cs : Array Value} {row : Option Nat} (h : Blk w g t cs) (hg : w.grownBy w' row) (hr : row ≠ some g) : Blk w' g t cs := (hg.block g h.lt (fun e => hr e.symm)).trans h
theorem OwnV.drew {lo : Nat} {w : World} {l : List V} {v : Value} (h : OwnV lo w l v) : OwnV lo w.drew l v := h.below ((Below.refl _ _).drew)
theorem Vs.drew {w : World} {B : Nat} {l : List V} {A : Option Addr} {c : Nat} (h : Vs w B l A c) : Vs w.drew B l A c := h.below ((Below.refl _ _).drew)

theorem OwnV.setCell {lo : Nat} {w : World} {l : List V} {v : Value} (h : OwnV lo w l v) {p : Addr} (hp : p.block < lo) (u : Value) : OwnV lo (w.setCell p u) l v := ⟨ownsRow_setCell_below h.1 hp u, h.2⟩
theorem OwnV.more {lo lo' : Nat} {w : World} {l : List V} {v : Value} (h : OwnV lo w l v) (hl : lo' ≤ lo) : OwnV lo' w l v := by
  refine ⟨⟨h.1.1, ?_⟩, h.2⟩
  rcases h.1.2 with h0 | ⟨g, cap, cur, k1, k2, k3⟩
  · exact .inl h0
  · exact .inr ⟨g, cap, cur, k1, Nat.le_trans hl k2, k3⟩
/-- behind an append onto an own list: what was there, but for blocks from B on -/
theorem below_grown {w0 w w' : World} {B : Nat} {row : Option Nat} (h : Below B w0 w) (hg : w.grownBy w' row) (hB : B ≤ w.heap.size) (hr : ∀ k, row = some k → B ≤ k) : Below B w0 w' := h.grown hg hB hr

end Go.Proofs.Ytnndohdiiglgmaa.vers
