/- What package node's own each, secretOf and nodeOf answer: the caller's own. -/
import Derived.Test.YtnkfboplafckoaaNeL


namespace Go.Proofs.Ytnkfboplafckoaa.nodes
set_option linter.unusedVariables false
set_option linter.unusedSimpArgs false
open Go.RowKit Go.Proofs.Ytnkfboplafckoaa.base Go.Proofs.Ytnkfboplafckoaa.quotas Go.Proofs.Ytnkfboplafckoaa.vers Go.Proofs.Ytnkfboplafckoaa.tm Go.Proofs.Ytnkfboplafckoaa.lies Go.Proofs.Ytnkfboplafckoaa.copies Go.Proofs.Ytnkfboplafckoaa.makes Go.Proofs.Ytnkfboplafckoaa.trees

def EAnsVo (w : World) (l : List T) (e : Ending) (w' : World) : Prop := ∃ m A c, e = .returned (.tuple #[.slice A m.length c, .bool (l.all verB)]) ∧ m = (if l.all verB = true then l.map toV else []) ∧ HVo w' w.heap.size w'.heap.size m A c ∧ Below w.heap.size w w'
def EAnsKo (w : World) (l : List T) (e : Ending) (w' : World) : Prop := ∃ m A c, e = .returned (.tuple #[.slice A m.length c, .bool (l.all kidB)]) ∧ m = (if l.all kidB = true then l.map toK else []) ∧ HKo w' w.heap.size w'.heap.size m A c ∧ Below w.heap.size w w'
def EAnsEo (w : World) (l : List T) (e : Ending) (w' : World) : Prop := ∃ m A c, e = .returned (.tuple #[.slice A m.length c, .bool (l.all entB)]) ∧ m.map pe = (if l.all entB = true then l.map toEP else []) ∧ HEo w' w.heap.size w'.heap.size m A c ∧ Below w.heap.size w w'
/-- what secretOf answers -/
def SAnso (w : World) (t : T) (e : Ending) (w' : World) : Prop := ∃ s m A c, e = .returned (.tuple #[.agg #[.string s, .slice A m.length c], .bool (entB t)]) ∧ (entB t = true → (s, m) = toEP t) ∧ s.size ≤ maxLen ∧ HVo w' w.heap.size w'.heap.size m A c ∧ Below w.heap.size w w'

set_option maxRecDepth 100000 in
set_option maxHeartbeats 1000000 in
theorem eachVo_any (l : List T) (A : Option Addr) (c : Nat) (w : World) (h : LiesS w w.heap.size l A c) :
    Calls Try.prog 110 #[.slice A l.length c, .func (.func 111) #[] #[]] w (EAnsVo w l) := by
  have hlen : l.length * 56 ≤ 140737488355328 := by obtain ⟨_, _, h2, _⟩ := h; exact h2
  go_enter Try.func110, Try.ntmps110
  go_wp2_with fail
  go_loopw [6, 13] (fun x y wr => ∃ j : Nat, j ≤ l.length ∧ y = .int .i64 j ∧ OwnV w.heap.size wr ((l.take j).map toV) x ∧ Hid ((l.take j).all verB = true) ∧ Below w.heap.size w wr) (fun _ y _ => l.length - (intOf y).toNat)
  case atStart => exact ⟨0, Nat.zero_le _, rfl, OwnV.nil _ _, vers.lay rfl, Below.refl _ _⟩
  case round =>
    obtain ⟨j, hj, rfl, hO, hV, bw⟩ := hrel
    by_cases hlt : j < l.length
    · obtain ⟨b, off, A1, c1, rfl, hb, hL, p0, p1, p2, p3⟩ := S_at (S_keep h bw) hlt
      have hl56 : l[j].l.length ≤ 140737488355328 := by obtain ⟨_, _, h2, _⟩ := (S_of hL).1; omega
      have D1 : Below wr.heap.size wr (wr.alloc (.cells #[.int .i64 l[j].k, .int .u64 l[j].n, .string l[j].s, .slice A1 l[j].l.length c1] 31)) := (Below.refl _ _).alloc (Nat.le_refl _) _
      have b3 := bw.trans (D1.mono bw.size)
      have hS1 : LiesS (wr.alloc (.cells #[.int .i64 l[j].k, .int .u64 l[j].n, .string l[j].s, .slice A1 l[j].l.length c1] 31)) (wr.alloc (.cells #[.int .i64 l[j].k, .int .u64 l[j].n, .string l[j].s, .slice A1 l[j].l.length c1] 31)).heap.size l[j].l A1 c1 := S_more (S_keep (S_more (S_of hL).1 bw.size) D1) D1.size
      have hc := versionOf_any l[j] A1 c1 _ hS1
      have hR : verB l[j] = true → verR l[j] = toV l[j] := fun hv => by unfold verR; rw [if_pos hv]
      have hfit : verB l[j] = true → (toV l[j]).fits := fun hv => toV_fits hS1 hv
      have hty := map_take toV l hlt
      clear hS1 hL
      cases hbb : verB l[j] with
      | false =>
        have hres : Hid (l.all verB = false) := vers.lay (all_no hlt hbb)
        rw [hbb] at hc
        clear hbb hR hfit hty
        generalize verR l[j] = y at hc
        generalize l[j].l.length = nl at *
        go_wp2_with fail
        refine hc.mono ?_
        rintro e w3 ⟨rfl, hb3⟩
        have b4 := b3.trans (hb3.mono b3.size)
        go_wp2_with fail
        go_ret2
        refine ⟨[], none, 0, ?_, ?_, HVo.nil _ _ _, b4.alloc b4.size _⟩
        · rw [hres.out]; rfl
        · rw [hres.out]; rfl
      | true =>
        rw [hR hbb, hbb] at hc
        have hy := hfit hbb
        have hall : Hid ((l.take (j + 1)).all verB = true) := vers.lay (all_take hlt hV.out hbb)
        have HTY : Hid _ := vers.lay hty
        have hl40 : Hid ((((l.take j).map toV).length + 1) * 40 ≤ 140737488355328) := vers.lay (by rw [List.length_map, List.length_take]; omega)
        clear hbb hR hfit hty hV
        generalize toV l[j] = y at hc hy HTY
        generalize l[j].l.length = nl at *
        have hown := fun k hk => (hO.own k hk).2
        have hlo := bw.size
        go_wp2_with fail
        refine hc.mono ?_
        rintro e w3 ⟨rfl, hb3⟩
        have D3 := D1.trans (hb3.mono D1.size)
        have b4 := bw.trans (D3.mono bw.size)
        have D4 := D3.alloc D3.size (.cells #[.int .i64 y.n, .string y.v, .string y.t] 55)
        have hO4 := hO.below D4
        have hz4 := D4.size
        have hlo4 : w.heap.size ≤ (w3.alloc (.cells #[.int .i64 y.n, .string y.v, .string y.t] 55)).heap.size := Nat.le_trans hlo hz4
        have hle := hl40.out
        clear hc D1 b3 hl40 p0 p1 p2 p3 hb3 D3
        go_wp2_with (at_builtin; go_loud (refine append_V rfl _ _ rfl hO4 rfl hlo4 hy (cs := #[.int .i64 y.n, .string y.v, .string y.t]) rfl rfl (by simp) hle ?next))
        case next =>
          intro v5 w5 hO5 hb5 hz5 _
          have b5 : Below w.heap.size w w5 := (b4.alloc b4.size _).trans hb5
          go_wp2_with fail
          exact ⟨⟨j + 1, hlt, by go_num, by rw [HTY.out, List.map_take]; exact hO5, hall, b5⟩, by simp [intOf]; omega⟩
    · have hall : Hid (l.all verB = true) := vers.lay (by have h1 := hV.out; rwa [List.take_of_length_le (by omega)] at h1)
      rw [List.take_of_length_le (by omega)] at hO
      obtain ⟨A3, c3, rfl, hH⟩ := OwnV.hvo hO
      have hln : (l.map toV).length = l.length := List.length_map _
      rw [hln]
      go_wp2_with fail
      go_ret2
      refine ⟨l.map toV, A3, c3, ?_, ?_, hH, bw⟩
      · rw [hall.out, hln]; rfl
      · rw [hall.out]; rfl

set_option maxRecDepth 100000 in
set_option maxHeartbeats 1000000 in
theorem eachKo_any (l : List T) (A : Option Addr) (c : Nat) (w : World) (h : LiesS w w.heap.size l A c) :
    Calls Try.prog 90 #[.slice A l.length c, .func (.func 91) #[] #[]] w (EAnsKo w l) := by
  have hlen : l.length * 56 ≤ 140737488355328 := by obtain ⟨_, _, h2, _⟩ := h; exact h2
  go_enter Try.func90, Try.ntmps90
  go_wp2_with fail
  go_loopw [6, 13] (fun x y wr => ∃ j : Nat, j ≤ l.length ∧ y = .int .i64 j ∧ OwnK w.heap.size wr ((l.take j).map toK) x ∧ Hid ((l.take j).all kidB = true) ∧ Below w.heap.size w wr) (fun _ y _ => l.length - (intOf y).toNat)
  case atStart => exact ⟨0, Nat.zero_le _, rfl, OwnK.nil _ _, vers.lay rfl, Below.refl _ _⟩
  case round =>
    obtain ⟨j, hj, rfl, hO, hV, bw⟩ := hrel
    by_cases hlt : j < l.length
    · obtain ⟨b, off, A1, c1, rfl, hb, hL, p0, p1, p2, p3⟩ := S_at (S_keep h bw) hlt
      have hl56 : l[j].l.length ≤ 140737488355328 := by obtain ⟨_, _, h2, _⟩ := (S_of hL).1; omega
      have D1 : Below wr.heap.size wr (wr.alloc (.cells #[.int .i64 l[j].k, .int .u64 l[j].n, .string l[j].s, .slice A1 l[j].l.length c1] 31)) := (Below.refl _ _).alloc (Nat.le_refl _) _
      have b3 := bw.trans (D1.mono bw.size)
      have hS1 : LiesS (wr.alloc (.cells #[.int .i64 l[j].k, .int .u64 l[j].n, .string l[j].s, .slice A1 l[j].l.length c1] 31)) (wr.alloc (.cells #[.int .i64 l[j].k, .int .u64 l[j].n, .string l[j].s, .slice A1 l[j].l.length c1] 31)).heap.size l[j].l A1 c1 := S_more (S_keep (S_more (S_of hL).1 bw.size) D1) D1.size
      have hc := kidOf_any l[j] A1 c1 _ hS1
      have hR : kidB l[j] = true → kidR l[j] = toK l[j] := fun hv => by unfold kidR; rw [if_pos hv]
      have hfit : kidB l[j] = true → (toK l[j]).fits := fun hv => toK_fits hS1 hv
      have hty := map_take toK l hlt
      clear hS1 hL
      cases hbb : kidB l[j] with
      | false =>
        have hres : Hid (l.all kidB = false) := vers.lay (all_no hlt hbb)
        rw [hbb] at hc
        clear hbb hR hfit hty
        generalize kidR l[j] = y at hc
        generalize l[j].l.length = nl at *
        go_wp2_with fail
        refine hc.mono ?_
        rintro e w3 ⟨rfl, hb3⟩
        have b4 := b3.trans (hb3.mono b3.size)
        go_wp2_with fail
        go_ret2
        refine ⟨[], none, 0, ?_, ?_, HKo.nil _ _ _, b4.alloc b4.size _⟩
        · rw [hres.out]; rfl
        · rw [hres.out]; rfl
      | true =>
        rw [hR hbb, hbb] at hc
        have hy := hfit hbb
        have hall : Hid ((l.take (j + 1)).all kidB = true) := vers.lay (all_take hlt hV.out hbb)
        have HTY : Hid _ := vers.lay hty
        have hl48 : Hid ((((l.take j).map toK).length + 1) * 48 ≤ 140737488355328) := vers.lay (by rw [List.length_map, List.length_take]; omega)
        clear hbb hR hfit hty hV
        generalize toK l[j] = y at hc hy HTY
        generalize l[j].l.length = nl at *
        have hown := fun k hk => (hO.own k hk).2
        have hlo := bw.size
        go_wp2_with fail
        refine hc.mono ?_
        rintro e w3 ⟨rfl, hb3⟩
        have D3 := D1.trans (hb3.mono D1.size)
        have b4 := bw.trans (D3.mono bw.size)
        have D4 := D3.alloc D3.size (.cells #[.string y.s, .int .u64 (y.k : Int), .int .i64 y.g, .int .i64 y.o, .int .i64 y.n] 43)
        have hO4 := hO.below D4
        have hz4 := D4.size
        have hlo4 : w.heap.size ≤ (w3.alloc (.cells #[.string y.s, .int .u64 (y.k : Int), .int .i64 y.g, .int .i64 y.o, .int .i64 y.n] 43)).heap.size := Nat.le_trans hlo hz4
        have hle := hl48.out
        clear hc D1 b3 hl48 p0 p1 p2 p3 hb3 D3
        go_wp2_with (at_builtin; go_loud (refine append_K rfl _ _ rfl hO4 rfl hlo4 hy (cs := #[.string y.s, .int .u64 (y.k : Int), .int .i64 y.g, .int .i64 y.o, .int .i64 y.n]) rfl rfl (by simp) hle ?next))
        case next =>
          intro v5 w5 hO5 hb5 hz5 _
          have b5 : Below w.heap.size w w5 := (b4.alloc b4.size _).trans hb5
          go_wp2_with fail
          exact ⟨⟨j + 1, hlt, by go_num, by rw [HTY.out, List.map_take]; exact hO5, hall, b5⟩, by simp [intOf]; omega⟩
    · have hall : Hid (l.all kidB = true) := vers.lay (by have h1 := hV.out; rwa [List.take_of_length_le (by omega)] at h1)
      rw [List.take_of_length_le (by omega)] at hO
      obtain ⟨A3, c3, rfl, hH⟩ := OwnK.hko hO
      have hln : (l.map toK).length = l.length := List.length_map _
      rw [hln]
      go_wp2_with fail
      go_ret2
      refine ⟨l.map toK, A3, c3, ?_, ?_, hH, bw⟩
      · rw [hall.out, hln]; rfl
      · rw [hall.out]; rfl

set_option maxRecDepth 100000 in
set_option maxHeartbeats 1000000 in
theorem secretOfo_no (t : T) (A : Option Addr) (c : Nat) (w : World) (h : LiesS w w.heap.size t.l A c) (hh : headB t 2 = false) :
    Calls Try.prog 89 #[.agg #[.int .i64 t.k, .int .u64 t.n, .string t.s, .slice A t.l.length c]] w (SAnso w t) := by
  have k1 := Blk.new (w.alloc (.cells #[.int .i64 t.k, .int .u64 t.n, .string t.s, .slice A t.l.length c] 31)) 53 #[.string ⟨#[]⟩, .slice none 0 0]
  have b0 : Below w.heap.size w ((w.alloc (.cells #[.int .i64 t.k, .int .u64 t.n, .string t.s, .slice A t.l.length c] 31)).alloc (.cells #[.string ⟨#[]⟩, .slice none 0 0] 53)) := ((Below.refl _ _).alloc (Nat.le_refl _) _).alloc (by simp) _
  simp only [World.size_alloc] at k1
  have hc := headed_no t A c 2 _ (S_world h b0) hh
  unfold noHead at hc
  have hlen : t.l.length ≤ 140737488355328 := by obtain ⟨_, _, h2, _⟩ := h; omega
  have HR := vers.lay (entB_head hh)
  clear h hh
  generalize t.l.length = nl at k1 b0 hc ⊢
  go_enter Try.func89, Try.ntmps89
  go_wp2_with fail
  refine hc.mono ?_
  rintro e w1 ⟨rfl, hb1⟩
  have b1 := b0.trans (hb1.mono b0.size)
  have b2 : Below w.heap.size w (w1.alloc (.cells #[.int .i64 0, .int .u64 0, .string ⟨#[]⟩, .slice none 0 0] 31)) := b1.alloc b1.size _
  have k2 := (k1.below hb1 (by simp)).alloc (.cells #[.int .i64 0, .int .u64 0, .string ⟨#[]⟩, .slice none 0 0] 31)
  have lt2 := k2.lt
  have z0 := k2.cell 0
  have z1 := k2.cell 1
  simp at z0 z1
  have f0 := k2.frozen 0
  have f1 := k2.frozen 1
  go_wp2_with fail
  refine bodyPost_ret (v := .tuple #[.agg #[.string ⟨#[]⟩, .slice none 0 0], .bool false]) (by simp [results, Try.results89, go_sem, z0, z1]) rfl ?_
  exact ⟨⟨#[]⟩, [], none, 0, by rw [HR.out]; rfl, (fun e => by rw [HR.out] at e; cases e), Nat.zero_le _, HVo.nil _ _ _, by repeat (first | exact b2 | refine Below.setCell ?_ (Nat.le_succ _) _)⟩

set_option maxRecDepth 100000 in
set_option maxHeartbeats 1000000 in
theorem secretOfo_yes (m : Int) (s : ByteArray) (x : T) (r : List T) (b off c : Nat) (w : World) (h : LiesS w w.heap.size (x :: r) (some ⟨b, off, none⟩) c) (hk : x.k = 2) :
    Calls Try.prog 89 #[.agg #[.int .i64 5, .int .u64 m, .string s, .slice (some ⟨b, off, none⟩) (r.length + 1) c]] w (SAnso w (T.mk 5 m s (x :: r))) := by
  have hxs := (S_fits h (x := x) (by simp)).2
  have k1 := Blk.new (w.alloc (.cells #[.int .i64 5, .int .u64 m, .string s, .slice (some ⟨b, off, none⟩) (r.length + 1) c] 31)) 53 #[.string ⟨#[]⟩, .slice none 0 0]
  have b0 : Below w.heap.size w ((w.alloc (.cells #[.int .i64 5, .int .u64 m, .string s, .slice (some ⟨b, off, none⟩) (r.length + 1) c] 31)).alloc (.cells #[.string ⟨#[]⟩, .slice none 0 0] 53)) := ((Below.refl _ _).alloc (Nat.le_refl _) _).alloc (by simp) _
  simp only [World.size_alloc] at k1
  have hc := headed_yes m s x r b off c 2 _ (S_world h b0) hk
  have hlen : r.length + 1 ≤ 140737488355328 := by obtain ⟨_, _, h2, _⟩ := h; simp at h2; omega
  clear h
  have HR := vers.lay (entB_yes m s r hk)
  clear hk
  go_enter Try.func89, Try.ntmps89
  go_wp2_with fail
  refine hc.mono ?_
  rintro e w1 ⟨⟨A1, nx, c1, A2, c2, rfl, hS⟩, hb1⟩
  have b1 := b0.trans (hb1.mono b0.size)
  have D2 : Below w1.heap.size w1 (w1.alloc (.cells #[.int .i64 x.k, .int .u64 x.n, .string x.s, .slice A1 nx c1] 31)) := (Below.refl _ _).alloc (Nat.le_refl _) _
  have b2 := b1.trans (D2.mono b1.size)
  have hS2 := S_world (S_more (S_keep hS hb1) hb1.size) D2
  have he := eachVo_any r A2 c2 _ hS2
  have k2 := (k1.below hb1 (by simp)).below D2 (by have := (k1.below hb1 (by simp)).lt; omega)
  have t2 := Blk.new w1 31 #[.int .i64 x.k, .int .u64 x.n, .string x.s, .slice A1 nx c1]
  have lt1 : w.heap.size + 1 < w1.heap.size := (k1.below hb1 (by simp)).lt
  clear hS hS2 hc hb1 b0 k1
  have HN := vers.lay (rfl : r.length = r.length)
  generalize hr : r.length = nr at he ⊢
  clear hr HN
  go_wp2_with fail
  refine he.mono ?_
  rintro e w3 ⟨m3, A3, c3, rfl, hm, hH, hb3⟩
  have k3 := k2.below hb3 k2.lt
  have t3 := t2.below hb3 t2.lt
  have b3 := b2.trans (hb3.mono b2.size)
  have y2 := t3.cell 2
  simp at y2
  have lt3 := k3.lt
  have lt4 := t3.lt
  have hz3 := hb3.size
  simp only [World.size_alloc] at hz3
  have HM := vers.lay hm
  have HX := vers.lay hH
  clear hm hH t2 t3 k2 he
  have z0 := k3.cell 0
  have z1 := k3.cell 1
  simp at z0 z1
  have f0 := k3.frozen 0
  have f1 := k3.frozen 1
  generalize hml : m3.length = nm at *
  go_wp2_with fail
  refine bodyPost_ret (v := .tuple #[.agg #[.string x.s, .slice A3 nm c3], .bool (r.all verB)]) (by simp [results, Try.results89, go_sem, z0, z1]) rfl ?_
  subst hml
  refine ⟨x.s, m3, A3, c3, by rw [HR.out], fun e => ?_, hxs, ?_, ?_⟩
  · rw [HR.out] at e
    rw [toEP_yes, HM.out, if_pos e]
  · exact HX.out.move (by have := b2.size; simp; omega) (by simp) (fun p p1 p2 => by
      simp at p1; rw [Below.heap_setCell _ _ _ _ (by simp; omega), Below.heap_setCell _ _ _ _ (by simp; omega)])
  · exact (b3.setCell (Nat.le_succ _) _).setCell (Nat.le_succ _) _

theorem secretOfo_any (t : T) (A : Option Addr) (c : Nat) (w : World) (h : LiesS w w.heap.size t.l A c) :
    Calls Try.prog 89 #[.agg #[.int .i64 t.k, .int .u64 t.n, .string t.s, .slice A t.l.length c]] w (SAnso w t) := by
  cases hh : headB t 2 with
  | false => exact secretOfo_no t A c w h hh
  | true =>
    obtain ⟨m, s, x, r, rfl, hk⟩ := headB_shape hh
    obtain ⟨b', off', A1, c1, e, hb, _, _⟩ := S_at h (j := 0) (by simp [T.l])
    cases e
    exact secretOfo_yes m s x r b' off' c w h hk

set_option maxRecDepth 100000 in
set_option maxHeartbeats 1000000 in
theorem eachEo_any (l : List T) (A : Option Addr) (c : Nat) (w : World) (h : LiesS w w.heap.size l A c) :
    Calls Try.prog 88 #[.slice A l.length c, .func (.func 89) #[] #[]] w (EAnsEo w l) := by
  have hlen : l.length * 56 ≤ 140737488355328 := by obtain ⟨_, _, h2, _⟩ := h; exact h2
  go_enter Try.func88, Try.ntmps88
  go_wp2_with fail
  go_loopw [6, 13] (fun x y wr => ∃ j : Nat, j ≤ l.length ∧ y = .int .i64 j ∧ (∃ es, OwnEo w.heap.size wr es x ∧ Hid (es.map pe = (l.take j).map toEP)) ∧ Hid ((l.take j).all entB = true) ∧ Below w.heap.size w wr) (fun _ y _ => l.length - (intOf y).toNat)
  case atStart => exact ⟨0, Nat.zero_le _, rfl, ⟨[], OwnEo.nil _ _, vers.lay rfl⟩, vers.lay rfl, Below.refl _ _⟩
  case round =>
    obtain ⟨j, hj, rfl, hO, hV, bw⟩ := hrel
    by_cases hlt : j < l.length
    · obtain ⟨b, off, A1, c1, rfl, hb, hL, p0, p1, p2, p3⟩ := S_at (S_keep h bw) hlt
      have hl56 : l[j].l.length ≤ 140737488355328 := by obtain ⟨_, _, h2, _⟩ := (S_of hL).1; omega
      have D1 : Below wr.heap.size wr (wr.alloc (.cells #[.int .i64 l[j].k, .int .u64 l[j].n, .string l[j].s, .slice A1 l[j].l.length c1] 31)) := (Below.refl _ _).alloc (Nat.le_refl _) _
      have b3 := bw.trans (D1.mono bw.size)
      have hS1 : LiesS (wr.alloc (.cells #[.int .i64 l[j].k, .int .u64 l[j].n, .string l[j].s, .slice A1 l[j].l.length c1] 31)) (wr.alloc (.cells #[.int .i64 l[j].k, .int .u64 l[j].n, .string l[j].s, .slice A1 l[j].l.length c1] 31)).heap.size l[j].l A1 c1 := S_more (S_keep (S_more (S_of hL).1 bw.size) D1) D1.size
      have hc := secretOfo_any l[j] A1 c1 _ hS1
      have hty := map_take toEP l hlt
      clear hS1 hL
      obtain ⟨es, hO, hes⟩ := hO
      have hln : es.length = j := by have := congrArg List.length hes.out; simp at this; omega
      cases hbb : entB l[j] with
      | false =>
        have hres : Hid (l.all entB = false) := vers.lay (all_no hlt hbb)
        have HB := vers.lay hbb
        clear hbb hty
        generalize hF : l[j] = t at *
        clear hF
        generalize t.l.length = nl at *
        go_wp2_with fail
        refine hc.mono ?_
        rintro e w3 ⟨s1, m1, A2, c2, rfl, _, _, _, hb3⟩
        rw [HB.out]
        have b4 := b3.trans (hb3.mono b3.size)
        go_wp2_with fail
        go_ret2
        refine ⟨[], none, 0, ?_, ?_, HEo.nil _ _ _, b4.alloc b4.size _⟩
        · rw [hres.out]; rfl
        · rw [hres.out]; rfl
      | true =>
        have hall : Hid ((l.take (j + 1)).all entB = true) := vers.lay (all_take hlt hV.out hbb)
        have HTY : Hid _ := vers.lay hty
        have HB := vers.lay hbb
        have hl40 : Hid ((es.length + 1) * 40 ≤ 140737488355328) := vers.lay (by omega)
        clear hbb hty hV
        have hown := fun k hk => (hO.own k hk).2
        have hlo := bw.size
        have hf : ∀ u v : Nat, u = u := fun _ _ => rfl
        generalize hF : l[j] = t at *
        clear hF
        generalize t.l.length = nl at *
        go_wp2_with fail
        refine hc.mono ?_
        rintro e w3 ⟨s1, m1, A2, c2, rfl, hval, hs1, hH, hb3⟩
        have hval := vers.lay (hval HB.out)
        rw [HB.out]
        have D3 := D1.trans (hb3.mono D1.size)
        have b4 := bw.trans (D3.mono bw.size)
        have HM : Hid (m1.length * 40 ≤ 140737488355328) := vers.lay ((hH ⟨#[]⟩).2.1)
        have hH4 : HVo (w3.alloc (.cells #[.string s1, .slice A2 m1.length c2] 53)) (wr.heap.size + 1) w3.heap.size m1 A2 c2 := hH.move (by simp) (Nat.le_refl _) (FrameO.of_below ((Below.refl _ _).alloc (Nat.le_refl _) _))
        have D4 := D3.alloc D3.size (.cells #[.string s1, .slice A2 m1.length c2] 53)
        have hO4 := hO.below D4
        have hz4 := D4.size
        have hlo4 : w.heap.size ≤ (w3.alloc (.cells #[.string s1, .slice A2 m1.length c2] 53)).heap.size := Nat.le_trans hlo hz4
        have hle := hl40.out
        clear hc D1 b3 hl40 p0 p1 p2 p3 hb3 D3 hH
        have hhi : w3.heap.size ≤ (w3.alloc (.cells #[.string s1, .slice A2 m1.length c2] 53)).heap.size := by simp
        have hlo5 : w.heap.size ≤ wr.heap.size + 1 := by omega
        have hown2 := fun k hk => Nat.lt_succ_of_lt (hown k hk)
        go_wp2_with (at_builtin; go_loud (refine append_Eo rfl _ _ rfl (y := ⟨s1, m1, A2, c2⟩) hO4 rfl hlo4 hH4 hs1 hhi hlo5 hown2 (cs := #[.string s1, .slice A2 m1.length c2]) rfl rfl (by simp) hle ?next))
        case next =>
          intro v5 w5 hO5 hb5 hz5 _
          have b5 : Below w.heap.size w w5 := (b4.alloc b4.size _).trans hb5
          go_wp2_with fail
          exact ⟨⟨j + 1, hlt, by go_num, ⟨_, hO5, vers.lay (by rw [List.map_append, hes.out, HTY.out, ← hval.out]; rfl)⟩, hall, b5⟩, by simp [intOf]; omega⟩
    · have hall : Hid (l.all entB = true) := vers.lay (by have h1 := hV.out; rwa [List.take_of_length_le (by omega)] at h1)
      obtain ⟨es, hO, hes⟩ := hO
      rw [List.take_of_length_le (by omega)] at hes
      obtain ⟨A3, c3, rfl, hH⟩ := OwnEo.heo hO
      go_wp2_with fail
      go_ret2
      refine ⟨es, A3, c3, ?_, ?_, hH, bw⟩
      · rw [hall.out]; rfl
      · rw [hall.out, hes.out]; rfl

/-- what nodeOf answers -/
def NAnsBo (w : World) (t : T) (e : Ending) (w' : World) : Prop := ∃ lf es A c ks Q m, e = .returned (.tuple #[.agg #[.bool lf, .slice A es.length c, .slice Q ks.length m], .bool (nodB t)]) ∧ (nodB t = true → (lf, es.map pe, ks) = nodeP t) ∧ HEo w' w.heap.size w'.heap.size es A c ∧ HKo w' w.heap.size w'.heap.size ks Q m ∧ Below w.heap.size w w'

set_option maxRecDepth 100000 in
set_option maxHeartbeats 1000000 in
theorem nodeOfo_no (t : T) (A : Option Addr) (c : Nat) (w : World) (h : LiesS w w.heap.size t.l A c) (hh : headB t 1 = false) :
    Calls Try.prog 56 #[.agg #[.int .i64 t.k, .int .u64 t.n, .string t.s, .slice A t.l.length c]] w (NAnsBo w t) := by
  have k1 := Blk.new (w.alloc (.cells #[.int .i64 t.k, .int .u64 t.n, .string t.s, .slice A t.l.length c] 31)) 27 #[.bool false, .slice none 0 0, .slice none 0 0]
  have b0 : Below w.heap.size w ((w.alloc (.cells #[.int .i64 t.k, .int .u64 t.n, .string t.s, .slice A t.l.length c] 31)).alloc (.cells #[.bool false, .slice none 0 0, .slice none 0 0] 27)) := ((Below.refl _ _).alloc (Nat.le_refl _) _).alloc (by simp) _
  simp only [World.size_alloc] at k1
  have hc := headed_no t A c 1 _ (S_world h b0) hh
  unfold noHead at hc
  have hlen : t.l.length ≤ 140737488355328 := by obtain ⟨_, _, h2, _⟩ := h; omega
  have HR := vers.lay (nodB_head hh)
  clear h hh
  generalize t.l.length = nl at k1 b0 hc ⊢
  go_enter Try.func56, Try.ntmps56
  go_wp2_with fail
  refine hc.mono ?_
  rintro e w1 ⟨rfl, hb1⟩
  have b1 := b0.trans (hb1.mono b0.size)
  have b2 : Below w.heap.size w (w1.alloc (.cells #[.int .i64 0, .int .u64 0, .string ⟨#[]⟩, .slice none 0 0] 31)) := b1.alloc b1.size _
  have k2 := (k1.below hb1 (by simp)).alloc (.cells #[.int .i64 0, .int .u64 0, .string ⟨#[]⟩, .slice none 0 0] 31)
  have lt2 := k2.lt
  have z0 := k2.cell 0
  have z1 := k2.cell 1
  have z2 := k2.cell 2
  simp at z0 z1 z2
  have f0 := k2.frozen 0
  have f1 := k2.frozen 1
  have f2 := k2.frozen 2
  go_wp2_with fail
  refine bodyPost_ret (v := .tuple #[.agg #[.bool false, .slice none 0 0, .slice none 0 0], .bool false]) (by simp [results, Try.results56, go_sem, z0, z1, z2]) rfl ?_
  exact ⟨false, [], none, 0, [], none, 0, by rw [HR.out]; rfl, (fun e => by rw [HR.out] at e; cases e), HEo.nil _ _ _, HKo.nil _ _ _, by repeat (first | exact b2 | refine Below.setCell ?_ (Nat.le_succ _) _)⟩

set_option maxRecDepth 100000 in
set_option maxHeartbeats 1000000 in
theorem nodeOfo_leaf (m : Int) (s : ByteArray) (x : T) (r : List T) (b off c : Nat) (w : World) (h : LiesS w w.heap.size (x :: r) (some ⟨b, off, none⟩) c) (hk : x.k = 1) (hn : x.n = 1) :
    Calls Try.prog 56 #[.agg #[.int .i64 5, .int .u64 m, .string s, .slice (some ⟨b, off, none⟩) (r.length + 1) c]] w (NAnsBo w (T.mk 5 m s (x :: r))) := by
  have d1 : (x.n == 1) = true := by simp [hn]
  have HR : Hid (nodB (T.mk 5 m s (x :: r)) = r.all entB) := vers.lay (by rw [nodB_yes m s r hk, if_pos hn])
  have HP : Hid (nodeP (T.mk 5 m s (x :: r)) = (true, r.map toEP, [])) := vers.lay (by rw [nodeP_yes, if_pos hn])
  clear hn
  have k1 := Blk.new (w.alloc (.cells #[.int .i64 5, .int .u64 m, .string s, .slice (some ⟨b, off, none⟩) (r.length + 1) c] 31)) 27 #[.bool false, .slice none 0 0, .slice none 0 0]
  have b0 : Below w.heap.size w ((w.alloc (.cells #[.int .i64 5, .int .u64 m, .string s, .slice (some ⟨b, off, none⟩) (r.length + 1) c] 31)).alloc (.cells #[.bool false, .slice none 0 0, .slice none 0 0] 27)) := ((Below.refl _ _).alloc (Nat.le_refl _) _).alloc (by simp) _
  simp only [World.size_alloc] at k1
  have hc := headed_yes m s x r b off c 1 _ (S_world h b0) hk
  have hlen : r.length + 1 ≤ 140737488355328 := by obtain ⟨_, _, h2, _⟩ := h; simp at h2; omega
  clear h
  clear hk
  go_enter Try.func56, Try.ntmps56
  go_wp2_with fail
  refine hc.mono ?_
  rintro e w1 ⟨⟨A1, nx, c1, A2, c2, rfl, hS⟩, hb1⟩
  have b1 := b0.trans (hb1.mono b0.size)
  have D2 : Below w1.heap.size w1 (w1.alloc (.cells #[.int .i64 x.k, .int .u64 x.n, .string x.s, .slice A1 nx c1] 31)) := (Below.refl _ _).alloc (Nat.le_refl _) _
  have b2 := b1.trans (D2.mono b1.size)
  have k2 := (k1.below hb1 (by simp)).below D2 (by have := (k1.below hb1 (by simp)).lt; omega)
  have lt1 : w.heap.size + 1 < w1.heap.size := (k1.below hb1 (by simp)).lt
  have hS2 := S_world (S_more (S_keep hS hb1) hb1.size) D2
  have he := eachEo_any r A2 c2 _ hS2
  clear hS hS2 hc hb1 b0 k1
  generalize hr : r.length = nr at he ⊢
  clear hr
  go_wp2_with fail
  refine he.mono ?_
  rintro e w3 ⟨m3, A3, c3, rfl, hm, hH, hb3⟩
  have k3 := k2.below hb3 k2.lt
  have b3 := b2.trans (hb3.mono b2.size)
  have lt3 := k3.lt
  have hz3 := hb3.size
  simp only [World.size_alloc] at hz3
  have HM := vers.lay hm
  have HX := vers.lay hH
  clear hm hH k2 he
  have z0 := k3.cell 0
  have z1 := k3.cell 1
  have z2 := k3.cell 2
  simp at z0 z1 z2
  have f0 := k3.frozen 0
  have f1 := k3.frozen 1
  have f2 := k3.frozen 2
  generalize hml : m3.length = nm at *
  go_wp2_with fail
  refine bodyPost_ret (v := .tuple #[.agg #[.bool true, .slice A3 nm c3, .slice none 0 0], .bool (r.all entB)]) (by simp [results, Try.results56, go_sem, z0, z1, z2]) rfl ?_
  subst hml
  refine ⟨true, m3, A3, c3, [], none, 0, by rw [HR.out]; rfl, fun e => ?_, ?_, HKo.nil _ _ _, ?_⟩
  · rw [HR.out] at e
    rw [HP.out, HM.out, if_pos e]
  · exact HX.out.move (by have := b2.size; simp; omega) (by simp) (fun p p1 p2 => by
      simp at p1
      repeat rw [Below.heap_setCell _ _ _ _ (by simp; omega)])
  · repeat (first | exact b3 | refine Below.setCell ?_ (Nat.le_succ _) _)

set_option maxRecDepth 100000 in
set_option maxHeartbeats 1000000 in
theorem nodeOfo_inner (m : Int) (s : ByteArray) (x : T) (r : List T) (b off c : Nat) (w : World) (h : LiesS w w.heap.size (x :: r) (some ⟨b, off, none⟩) c) (hk : x.k = 1) (hn : x.n = 2) :
    Calls Try.prog 56 #[.agg #[.int .i64 5, .int .u64 m, .string s, .slice (some ⟨b, off, none⟩) (r.length + 1) c]] w (NAnsBo w (T.mk 5 m s (x :: r))) := by
  have d1 : (x.n == 1) = false := by simp [hn]
  have d2 : (x.n == 2) = true := by simp [hn]
  have HR : Hid (nodB (T.mk 5 m s (x :: r)) = r.all kidB) := vers.lay (by rw [nodB_yes m s r hk, if_neg (by omega), if_pos hn])
  have HP : Hid (nodeP (T.mk 5 m s (x :: r)) = (false, [], r.map toK)) := vers.lay (by rw [nodeP_yes, if_neg (by omega)])
  clear hn
  have k1 := Blk.new (w.alloc (.cells #[.int .i64 5, .int .u64 m, .string s, .slice (some ⟨b, off, none⟩) (r.length + 1) c] 31)) 27 #[.bool false, .slice none 0 0, .slice none 0 0]
  have b0 : Below w.heap.size w ((w.alloc (.cells #[.int .i64 5, .int .u64 m, .string s, .slice (some ⟨b, off, none⟩) (r.length + 1) c] 31)).alloc (.cells #[.bool false, .slice none 0 0, .slice none 0 0] 27)) := ((Below.refl _ _).alloc (Nat.le_refl _) _).alloc (by simp) _
  simp only [World.size_alloc] at k1
  have hc := headed_yes m s x r b off c 1 _ (S_world h b0) hk
  have hlen : r.length + 1 ≤ 140737488355328 := by obtain ⟨_, _, h2, _⟩ := h; simp at h2; omega
  clear h
  clear hk
  go_enter Try.func56, Try.ntmps56
  go_wp2_with fail
  refine hc.mono ?_
  rintro e w1 ⟨⟨A1, nx, c1, A2, c2, rfl, hS⟩, hb1⟩
  have b1 := b0.trans (hb1.mono b0.size)
  have D2 : Below w1.heap.size w1 (w1.alloc (.cells #[.int .i64 x.k, .int .u64 x.n, .string x.s, .slice A1 nx c1] 31)) := (Below.refl _ _).alloc (Nat.le_refl _) _
  have b2 := b1.trans (D2.mono b1.size)
  have k2 := (k1.below hb1 (by simp)).below D2 (by have := (k1.below hb1 (by simp)).lt; omega)
  have lt1 : w.heap.size + 1 < w1.heap.size := (k1.below hb1 (by simp)).lt
  have hS2 := S_world (S_more (S_keep hS hb1) hb1.size) D2
  have he := eachKo_any r A2 c2 _ hS2
  clear hS hS2 hc hb1 b0 k1
  generalize hr : r.length = nr at he ⊢
  clear hr
  go_wp2_with fail
  refine he.mono ?_
  rintro e w3 ⟨m3, A3, c3, rfl, hm, hH, hb3⟩
  have k3 := k2.below hb3 k2.lt
  have b3 := b2.trans (hb3.mono b2.size)
  have lt3 := k3.lt
  have hz3 := hb3.size
  simp only [World.size_alloc] at hz3
  have HM := vers.lay hm
  have HX := vers.lay hH
  clear hm hH k2 he
  have z0 := k3.cell 0
  have z1 := k3.cell 1
  have z2 := k3.cell 2
  simp at z0 z1 z2
  have f0 := k3.frozen 0
  have f1 := k3.frozen 1
  have f2 := k3.frozen 2
  generalize hml : m3.length = nm at *
  go_wp2_with fail
  refine bodyPost_ret (v := .tuple #[.agg #[.bool false, .slice none 0 0, .slice A3 nm c3], .bool (r.all kidB)]) (by simp [results, Try.results56, go_sem, z0, z1, z2]) rfl ?_
  subst hml
  refine ⟨false, [], none, 0, m3, A3, c3, by rw [HR.out]; rfl, fun e => ?_, HEo.nil _ _ _, ?_, ?_⟩
  · rw [HR.out] at e
    rw [HP.out, HM.out, if_pos e]
    rfl
  · exact HX.out.move (by have := b2.size; simp; omega) (by simp) (fun p p1 p2 => by
      simp at p1
      repeat rw [Below.heap_setCell _ _ _ _ (by simp; omega)])
  · repeat (first | exact b3 | refine Below.setCell ?_ (Nat.le_succ _) _)

set_option maxRecDepth 100000 in
set_option maxHeartbeats 1000000 in
theorem nodeOfo_other (m : Int) (s : ByteArray) (x : T) (r : List T) (b off c : Nat) (w : World) (h : LiesS w w.heap.size (x :: r) (some ⟨b, off, none⟩) c) (hk : x.k = 1) (hn1 : ¬ x.n = 1) (hn2 : ¬ x.n = 2) :
    Calls Try.prog 56 #[.agg #[.int .i64 5, .int .u64 m, .string s, .slice (some ⟨b, off, none⟩) (r.length + 1) c]] w (NAnsBo w (T.mk 5 m s (x :: r))) := by
  have d1 : (x.n == 1) = false := by simpa using hn1
  have d2 : (x.n == 2) = false := by simpa using hn2
  have HR : Hid (nodB (T.mk 5 m s (x :: r)) = false) := vers.lay (by rw [nodB_yes m s r hk, if_neg hn1, if_neg hn2])
  clear hn1 hn2
  have k1 := Blk.new (w.alloc (.cells #[.int .i64 5, .int .u64 m, .string s, .slice (some ⟨b, off, none⟩) (r.length + 1) c] 31)) 27 #[.bool false, .slice none 0 0, .slice none 0 0]
  have b0 : Below w.heap.size w ((w.alloc (.cells #[.int .i64 5, .int .u64 m, .string s, .slice (some ⟨b, off, none⟩) (r.length + 1) c] 31)).alloc (.cells #[.bool false, .slice none 0 0, .slice none 0 0] 27)) := ((Below.refl _ _).alloc (Nat.le_refl _) _).alloc (by simp) _
  simp only [World.size_alloc] at k1
  have hc := headed_yes m s x r b off c 1 _ (S_world h b0) hk
  have hlen : r.length + 1 ≤ 140737488355328 := by obtain ⟨_, _, h2, _⟩ := h; simp at h2; omega
  clear h
  clear hk
  go_enter Try.func56, Try.ntmps56
  go_wp2_with fail
  refine hc.mono ?_
  rintro e w1 ⟨⟨A1, nx, c1, A2, c2, rfl, hS⟩, hb1⟩
  have b1 := b0.trans (hb1.mono b0.size)
  have D2 : Below w1.heap.size w1 (w1.alloc (.cells #[.int .i64 x.k, .int .u64 x.n, .string x.s, .slice A1 nx c1] 31)) := (Below.refl _ _).alloc (Nat.le_refl _) _
  have b2 := b1.trans (D2.mono b1.size)
  have k2 := (k1.below hb1 (by simp)).below D2 (by have := (k1.below hb1 (by simp)).lt; omega)
  have lt1 : w.heap.size + 1 < w1.heap.size := (k1.below hb1 (by simp)).lt
  have k3 := k1.below hb1 (by simp)
  clear hS hc hb1 b0 k1 D2 k2
  have hq : ∀ (W : World) (X : Obj) (i : Nat), w.heap.size + 1 < W.heap.size → (W.alloc X).cell? ⟨w.heap.size + 1, i, none⟩ = W.cell? ⟨w.heap.size + 1, i, none⟩ := fun W X i h => World.cell?_alloc_lt W X _ (by simpa using h)
  have z0 := k3.cell 0
  have z1 := k3.cell 1
  have z2 := k3.cell 2
  simp at z0 z1 z2
  have f0 := k3.frozen 0
  have f1 := k3.frozen 1
  have f2 := k3.frozen 2
  go_wp2_with fail
  refine bodyPost_ret (v := .tuple #[.agg #[.bool false, .slice none 0 0, .slice none 0 0], .bool false]) (by simp [results, Try.results56, go_sem, z0, z1, z2, hq, lt1]) rfl ?_
  refine ⟨false, [], none, 0, [], none, 0, by rw [HR.out]; rfl, (fun e => by rw [HR.out] at e; cases e), HEo.nil _ _ _, HKo.nil _ _ _, ?_⟩
  refine Below.alloc ?_ (by simp; exact b1.size) _
  repeat (first | exact b1 | refine Below.setCell ?_ (Nat.le_succ _) _)

theorem nodeOfo_any (t : T) (A : Option Addr) (c : Nat) (w : World) (h : LiesS w w.heap.size t.l A c) :
    Calls Try.prog 56 #[.agg #[.int .i64 t.k, .int .u64 t.n, .string t.s, .slice A t.l.length c]] w (NAnsBo w t) := by
  cases hh : headB t 1 with
  | false => exact nodeOfo_no t A c w h hh
  | true =>
    obtain ⟨m, s, x, r, rfl, hk⟩ := headB_shape hh
    obtain ⟨b', off', A1, c1, e, hb, _, _⟩ := S_at h (j := 0) (by simp [T.l])
    cases e
    by_cases h1 : x.n = 1
    · exact nodeOfo_leaf m s x r b' off' c w h hk h1
    · by_cases h2 : x.n = 2
      · exact nodeOfo_inner m s x r b' off' c w h hk h2
      · exact nodeOfo_other m s x r b' off' c w h hk h1 h2

end Go.Proofs.Ytnkfboplafckoaa.nodes
