/- A node out of a term, in pure words; lists that a call makes by append: versions, secrets, kids. -/
import Derived.Test.YtnkfboplafckoaaNdM
import Derived.Test.YtnkfboplafckoaaNdE
import Derived.Test.YtnkfboplafckoaaVerFK
import Derived.Test.YtnkfboplafckoaaNdFI


namespace Go.Proofs.Ytnkfboplafckoaa.nodes
set_option linter.unusedVariables false
set_option linter.unusedSimpArgs false
open Go.RowKit Go.Proofs.Ytnkfboplafckoaa.base Go.Proofs.Ytnkfboplafckoaa.quotas Go.Proofs.Ytnkfboplafckoaa.vers Go.Proofs.Ytnkfboplafckoaa.tm Go.Proofs.Ytnkfboplafckoaa.lies Go.Proofs.Ytnkfboplafckoaa.copies Go.Proofs.Ytnkfboplafckoaa.makes

def numB (t : T) : Bool := decide (t.k = 1) && decide (t.n ≤ 2147483647)
def verB (t : T) : Bool := decide (t.k = 5) && (match t.l with | [a, b, c] => numB a && decide (b.k = 2) && decide (c.k = 2) | _ => false)
def toV (t : T) : V := match t.l with | [a, b, c] => ⟨a.n, b.s, c.s⟩ | _ => ⟨0, ⟨#[]⟩, ⟨#[]⟩⟩
def entB (t : T) : Bool := decide (t.k = 5) && (match t.l with | a :: r => decide (a.k = 2) && r.all verB | [] => false)
def toEP (t : T) : ByteArray × List V := match t.l with | a :: r => (a.s, r.map toV) | [] => (⟨#[]⟩, [])
def kidB (t : T) : Bool := decide (t.k = 5) && (match t.l with | [a, b, c, d, e] => decide (a.k = 2) && decide (b.k = 3) && numB c && numB d && numB e | _ => false)
def toK (t : T) : K := match t.l with | [a, b, c, d, e] => ⟨a.s, b.n.toNat, c.n, d.n, e.n⟩ | _ => ⟨⟨#[]⟩, 0, 0, 0, 0⟩
def nodB (t : T) : Bool := decide (t.k = 5) && (match t.l with | a :: r => decide (a.k = 1) && (if a.n = 1 then r.all entB else if a.n = 2 then r.all kidB else false) | [] => false)
/-- a node, but for where it lies -/
abbrev P3 := Bool × List (ByteArray × List V) × List K
def zN : P3 := (false, [], [])
def nodeP (t : T) : P3 := match t.l with | a :: r => if a.n = 1 then (true, r.map toEP, []) else (false, [], r.map toK) | [] => zN
def toE (p : ByteArray × List V) : E := ⟨p.1, p.2, none, 0⟩
def ndP (a b c d e f h : Int) (x : P3) : Int := ndbad a b c d e f h x.1 (x.2.1.map toE) x.2.2
def fromP (a b c d e f h : Int) (t : T) : P3 × Int :=
  if ok a b c d e f h then (if t.right ≠ 0 then (zN, t.right) else if nodB t = true then (if ndP a b c d e f h (nodeP t) ≠ 0 then (zN, ndP a b c d e f h (nodeP t)) else (nodeP t, 0)) else (zN, 60)) else (zN, 40)

theorem ebad_pe (a b c d e f h : Int) : ∀ (l m : List E) (p : Option ByteArray), l.map pe = m.map pe → ebad a b c d e f h p l = ebad a b c d e f h p m
  | [], [], _, _ => rfl
  | [], y :: m, _, hm => by simp at hm
  | x :: l, [], _, hm => by simp at hm
  | x :: l, y :: m, p, hm => by
    simp only [List.map_cons, List.cons.injEq] at hm
    obtain ⟨h1, h2⟩ := hm
    have e1 : x.s = y.s := congrArg Prod.fst h1
    have e2 : x.l = y.l := congrArg Prod.snd h1
    have ih := ebad_pe a b c d e f h l m (some y.s) h2
    show (if rb (nbad a b c d e f h x.s x.l) x.l ≠ 0 then rb (nbad a b c d e f h x.s x.l) x.l else if behind x.s p = true then 60 else ebad a b c d e f h (some x.s) l) = (if rb (nbad a b c d e f h y.s y.l) y.l ≠ 0 then rb (nbad a b c d e f h y.s y.l) y.l else if behind y.s p = true then 60 else ebad a b c d e f h (some y.s) m)
    rw [e1, e2, ih]
theorem ndbad_pe (a b c d e f h : Int) (lf : Bool) (l m : List E) (ks : List K) (hm : l.map pe = m.map pe) : ndbad a b c d e f h lf l ks = ndbad a b c d e f h lf m ks := by
  have hl : l.length = m.length := by simpa using congrArg List.length hm
  unfold ndbad
  rw [hl, ebad_pe a b c d e f h l m none hm]
theorem pe_toE (l : List (ByteArray × List V)) : (l.map toE).map pe = l := by
  rw [List.map_map]
  exact (List.map_congr_left (fun x _ => rfl)).trans (List.map_id l)
theorem ndP_of (a b c d e f h : Int) (lf : Bool) (es : List E) (ks : List K) : ndbad a b c d e f h lf es ks = ndP a b c d e f h (lf, es.map pe, ks) := ndbad_pe a b c d e f h lf es _ ks (by rw [pe_toE])

/-! ### lists that hold as long as the blocks from lo to hi are left alone -/
def Frame (w w2 : World) (lo hi : Nat) : Prop := ∀ p : Addr, lo ≤ p.block → p.block < hi → w2.cell? p = w.cell? p
def HVs (w : World) (lo hi : Nat) (l : List V) (A : Option Addr) (c : Nat) : Prop := ∀ w2 B2, hi ≤ B2 → Frame w w2 lo hi → Vs w2 B2 l A c
def HEs (w : World) (lo hi : Nat) (l : List E) (A : Option Addr) (c : Nat) : Prop := ∀ w2 B2, hi ≤ B2 → Frame w w2 lo hi → Es w2 B2 l A c
def HKs (w : World) (lo hi : Nat) (l : List K) (A : Option Addr) (c : Nat) : Prop := ∀ w2 B2, hi ≤ B2 → Frame w w2 lo hi → Ks w2 B2 l A c
theorem Frame.trans {w w' w2 : World} {lo hi lo' hi' : Nat} (h : Frame w w' lo hi) (h2 : Frame w' w2 lo' hi') (h1 : lo' ≤ lo) (hh : hi ≤ hi') : Frame w w2 lo hi := fun p p1 p2 => (h2 p (by omega) (by omega)).trans (h p p1 p2)
theorem HVs.move {w w' : World} {lo hi lo' hi' : Nat} {l : List V} {A : Option Addr} {c : Nat} (h : HVs w lo hi l A c) (h1 : lo' ≤ lo) (h2 : hi ≤ hi') (hk : Frame w w' lo hi) : HVs w' lo' hi' l A c := fun w2 B2 hB hf => h w2 B2 (by omega) (hk.trans hf h1 h2)
theorem HEs.move {w w' : World} {lo hi lo' hi' : Nat} {l : List E} {A : Option Addr} {c : Nat} (h : HEs w lo hi l A c) (h1 : lo' ≤ lo) (h2 : hi ≤ hi') (hk : Frame w w' lo hi) : HEs w' lo' hi' l A c := fun w2 B2 hB hf => h w2 B2 (by omega) (hk.trans hf h1 h2)
theorem HKs.move {w w' : World} {lo hi lo' hi' : Nat} {l : List K} {A : Option Addr} {c : Nat} (h : HKs w lo hi l A c) (h1 : lo' ≤ lo) (h2 : hi ≤ hi') (hk : Frame w w' lo hi) : HKs w' lo' hi' l A c := fun w2 B2 hB hf => h w2 B2 (by omega) (hk.trans hf h1 h2)
theorem Frame.of_below {w w' : World} {lo hi : Nat} (hb : Below hi w w') : Frame w w' lo hi := fun p _ p2 => hb.cell p2
theorem HVs.nil (w : World) (lo hi : Nat) : HVs w lo hi [] none 0 := fun _ _ _ _ => ⟨Nat.le_refl _, by simp, fun _ => rfl, Rd.nil _ _ _, fun x h => by cases h⟩
theorem HEs.nil (w : World) (lo hi : Nat) : HEs w lo hi [] none 0 := fun _ _ _ _ => ⟨Nat.le_refl _, by simp, fun _ => rfl, Rd.nil _ _ _, fun x h => by cases h⟩
theorem HKs.nil (w : World) (lo hi : Nat) : HKs w lo hi [] none 0 := fun _ _ _ _ => ⟨Nat.le_refl _, by simp, fun _ => rfl, Rd.nil _ _ _, fun x h => by cases h⟩
/-- a row of the call's own, as a list that holds -/
theorem row_held {w : World} {lo : Nat} {e : TypeId} {k n : Nat} {v : Value} {xs : List Value} (h : w.ownsRow lo e k v n xs) : ∃ A c, v = .slice A n c ∧ n ≤ c ∧ (A = none → c = 0) ∧ (∀ b off, A = some ⟨b, off, none⟩ → v.ownBlock = some b) ∧ ∀ w2 B2, w.heap.size ≤ B2 → Frame w w2 lo w.heap.size → Rd w2 B2 A xs := by
  obtain ⟨hx, h1⟩ := h
  rcases h1 with ⟨rfl, hn⟩ | ⟨g, cap, cur, rfl, hg, hb, hc, _, hs, ht⟩
  · subst hn
    obtain rfl := List.eq_nil_of_length_eq_zero (show xs.length = 0 by omega)
    exact ⟨none, 0, rfl, Nat.le_refl _, fun _ => rfl, (fun b off e => by cases e), fun _ _ _ _ => Rd.nil _ _ _⟩
  · have hlt : g < w.heap.size := Blk.lt (t := e) (cs := cur) hb
    refine ⟨_, cap, rfl, hc, (fun e => by cases e), (fun b off e => by cases e; rfl), fun w2 B2 hB hf j u hj => ⟨g, 0, rfl, by omega, ?_⟩⟩
    rw [hf ⟨g, 0 + j, none⟩ hg hlt, Nat.zero_add, Blk.cell (t := e) (cs := cur) hb]
    rw [← ht, List.getElem?_take] at hj
    split at hj
    · simpa using hj
    · cases hj

section
variable {P : Program}
/-- append of one element, in the walk -/
theorem append_one {e tS : TypeId} {i0 : TypeInfo} {z : Value} {size bytes : Nat} (hun : P.underlying tS = some (.slice e)) (hi0 : P.info? e = some i0) (hz0 : i0.zero = some z) (hz1 : i0.size = size) (hz2 : i0.bytes = bytes) (hzs : z.cells.size = size) (hsz : 0 < size)
    {ops : Array Oper} {rest : List Oper} {o : Oper} {a : Act} {Q : Exit → Act → World → Prop} (hgd : o.guard = none) (s x : Operand)
    (ho : o.op = .call { callee := .builtin .append, args := #[s, x], argTypes := #[tS, tS] })
    {lo : Nat} {w : World} {v : Value} {n : Nat} {xs : List Value} {cs : Array Value} (hown : w.ownsRow lo e size v n xs) (hs : a.eval s = v) (hlo : lo ≤ w.heap.size) (hcs : cs.toList.length = size) (h1 : ∀ u ∈ cs.toList, u.oneCell' = true)
    {q : Nat} (hx : a.eval x = .slice (some ⟨q, 0, none⟩) 1 1) (hqz : q = w.heap.size) (hlen : (n + 1) * bytes ≤ 140737488355328) (hmax : n + 1 ≤ maxLen)
    (h : ∀ v' w', w'.ownsRow lo e size v' (n + 1) (xs ++ cs.toList) → Below lo w w' → w.heap.size ≤ w'.heap.size → (∀ p : Addr, p.block < w.heap.size → some p.block ≠ v.ownBlock → w'.cell? p = w.cell? p) → (v'.ownBlock = v.ownBlock ∨ ∃ k, v'.ownBlock = some k ∧ w.heap.size ≤ k) → (∀ g T c, T ≠ e → Blk w g T c → Blk w' g T c) → wpList P ops Q rest (a.put o.dst v') w') :
    wpList P ops Q (o :: rest) a (w.alloc (.cells cs e)) := by
  subst hqz
  have hownA : (w.alloc (.cells cs e)).ownsRow lo e size v n xs := hown.kept (grown_below (World.grownBy.refl w none) ((Below.refl _ _).alloc (Nat.le_refl _) _)) (by cases v.ownBlock with | none => exact .inl rfl | some k => exact .inr (fun e => by cases e))
  have hnews := World.news_of_block (cs := cs) (t := e) (fr := (0, 0)) (heap_alloc_new w (.cells cs e))
  refine wpList_append_own_at _ hgd s x tS ho lo e i0 _ size bytes hun hi0 hz0 hz1 hz2 hzs hsz v n xs hs hownA ⟨w.heap.size, 0, none⟩ 1 1 cs.toList hx (by omega) hnews h1 hmax hlen (by simp; omega) ?_
  intro v' w' ho' hg _ hat
  have hz := hg.size
  simp only [World.size_alloc] at hz
  have hown0 : ∀ k, v.ownBlock = some k → lo ≤ k ∧ k < w.heap.size := hown.lt
  have hkeep : ∀ p : Addr, p.block < w.heap.size → some p.block ≠ v.ownBlock → w'.cell? p = w.cell? p := fun p hp hne => by
    rw [World.cell?_of_block (hg.block p.block (by simp; omega) hne), World.cell?_alloc_lt _ _ _ hp]
  refine h v' w' ho' (((Below.refl lo w).alloc hlo _).grown hg (by simp; omega) fun k hk => (hown0 k hk).1) (by omega) hkeep ?_ ?_
  · rcases hat with e1 | e1
    · exact .inl e1
    · exact .inr ⟨_, e1, by simp⟩
  · intro g T c hT hb
    have hb1 := Blk.alloc hb (.cells cs e)
    refine (hg.block g hb1.lt fun e1 => ?_).trans hb1
    rcases hownA.2 with ⟨rfl, _⟩ | ⟨g', cap, cur, rfl, _, hh, _⟩
    · simp [Value.ownBlock] at e1
    · simp [Value.ownBlock] at e1
      subst e1
      unfold Blk at hb1
      rw [hh] at hb1
      injection hb1 with hb1
      injection hb1 with _ hb1
      exact hT hb1.symm
end
theorem infoE : (Try.prog.info? 53).map (fun i => (i.zero, i.size, i.bytes)) = some (some (.agg #[.string ⟨#[]⟩, .slice none 0 0]), 2, 40) := by kernel_rfl
theorem infoK : (Try.prog.info? 43).map (fun i => (i.zero, i.size, i.bytes)) = some (some (.agg #[.string ⟨#[]⟩, .int .u64 0, .int .i64 0, .int .i64 0, .int .i64 0]), 5, 48) := by kernel_rfl

/-! ### versions -/
theorem OwnV.hvs {lo : Nat} {w : World} {l : List V} {v : Value} (h : OwnV lo w l v) : ∃ A c, v = .slice A l.length c ∧ HVs w lo w.heap.size l A c := by
  obtain ⟨h1, h2, h3⟩ := h
  obtain ⟨A, c, e, hc, hn, _, hr⟩ := row_held h1
  exact ⟨A, c, e, fun w2 B2 hB hf => ⟨hc, h2, hn, hr w2 B2 hB hf, h3⟩⟩
theorem append_V {ops : Array Oper} {rest : List Oper} {o : Oper} {a : Act} {Q : Exit → Act → World → Prop} (hgd : o.guard = none) (s x : Operand)
    (ho : o.op = .call { callee := .builtin .append, args := #[s, x], argTypes := #[51, 51] })
    {lo : Nat} {w : World} {v : Value} {l : List V} {y : V} (hown : OwnV lo w l v) (hs : a.eval s = v) (hlo : lo ≤ w.heap.size) (hy : y.fits) {cs : Array Value} (hcs : cs.toList = y.cells)
    {q : Nat} (hx : a.eval x = .slice (some ⟨q, 0, none⟩) 1 1) (hqz : q = w.heap.size) (hlen : (l.length + 1) * 40 ≤ 140737488355328)
    (h : ∀ v' w', OwnV lo w' (l ++ [y]) v' → Below lo w w' → w.heap.size ≤ w'.heap.size → (∀ g T c, T ≠ 55 → Blk w g T c → Blk w' g T c) → wpList Try.prog ops Q rest (a.put o.dst v') w') :
    wpList Try.prog ops Q (o :: rest) a (w.alloc (.cells cs 55)) := by
  obtain ⟨i0, hi0, hz0, hz1, hz2⟩ := info_parts infoV
  refine append_one Try.underlying51 hi0 hz0 hz1 hz2 rfl (by decide) hgd s x ho hown.1 hs hlo (by rw [hcs]; rfl) ?_ hx hqz hlen (by unfold maxLen; omega) ?_
  · intro u hu; rw [hcs] at hu; simp [V.cells] at hu; rcases hu with rfl | rfl | rfl <;> rfl
  · intro v' w' h1 h2 h3 _ _ h6
    refine h v' w' ⟨?_, by rw [List.length_append]; exact hlen, fun z hz => ?_⟩ h2 h3 h6
    · rw [hcs] at h1
      rw [List.length_append, cellsV_app]
      simpa [cellsV] using h1
    · rcases List.mem_append.1 hz with hz | hz
      · exact hown.2.2 z hz
      · rw [List.mem_singleton.1 hz]; exact hy

/-! ### kids -/
def OwnK (lo : Nat) (w : World) (l : List K) (v : Value) : Prop := w.ownsRow lo 43 5 v l.length (cellsK l) ∧ l.length * 48 ≤ 140737488355328 ∧ ∀ x ∈ l, x.fits
theorem OwnK.nil (lo : Nat) (w : World) : OwnK lo w [] (.slice none 0 0) := ⟨⟨rfl, .inl ⟨rfl, rfl⟩⟩, by simp, fun x h => by cases h⟩
theorem OwnK.own {lo : Nat} {w : World} {l : List K} {v : Value} (h : OwnK lo w l v) : ∀ k, v.ownBlock = some k → lo ≤ k ∧ k < w.heap.size := h.1.lt
theorem OwnK.below {lo : Nat} {w w' : World} {l : List K} {v : Value} (h : OwnK lo w l v) (hb : Below w.heap.size w w') : OwnK lo w' l v :=
  ⟨h.1.kept (grown_below (World.grownBy.refl w none) hb) (by cases v.ownBlock with | none => exact .inl rfl | some k => exact .inr (fun e => by cases e)), h.2⟩
theorem OwnK.setCell {lo : Nat} {w : World} {l : List K} {v : Value} (h : OwnK lo w l v) {p : Addr} (hp : p.block < lo) (u : Value) : OwnK lo (w.setCell p u) l v := by
  obtain ⟨⟨hx, h1⟩, h2⟩ := h
  refine ⟨⟨hx, ?_⟩, h2⟩
  rcases h1 with h1 | ⟨g, cap, cur, e, hg, hb, hr⟩
  · exact .inl h1
  · exact .inr ⟨g, cap, cur, e, hg, Blk.far (t := 43) (cs := cur) hb (by omega) u, hr⟩
theorem OwnK.hks {lo : Nat} {w : World} {l : List K} {v : Value} (h : OwnK lo w l v) : ∃ A c, v = .slice A l.length c ∧ HKs w lo w.heap.size l A c := by
  obtain ⟨h1, h2, h3⟩ := h
  obtain ⟨A, c, e, hc, hn, _, hr⟩ := row_held h1
  exact ⟨A, c, e, fun w2 B2 hB hf => ⟨hc, h2, hn, hr w2 B2 hB hf, h3⟩⟩
theorem append_K {ops : Array Oper} {rest : List Oper} {o : Oper} {a : Act} {Q : Exit → Act → World → Prop} (hgd : o.guard = none) (s x : Operand)
    (ho : o.op = .call { callee := .builtin .append, args := #[s, x], argTypes := #[25, 25] })
    {lo : Nat} {w : World} {v : Value} {l : List K} {y : K} (hown : OwnK lo w l v) (hs : a.eval s = v) (hlo : lo ≤ w.heap.size) (hy : y.fits) {cs : Array Value} (hcs : cs.toList = y.cells)
    {q : Nat} (hx : a.eval x = .slice (some ⟨q, 0, none⟩) 1 1) (hqz : q = w.heap.size) (hlen : (l.length + 1) * 48 ≤ 140737488355328)
    (h : ∀ v' w', OwnK lo w' (l ++ [y]) v' → Below lo w w' → w.heap.size ≤ w'.heap.size → (∀ g T c, T ≠ 43 → Blk w g T c → Blk w' g T c) → wpList Try.prog ops Q rest (a.put o.dst v') w') :
    wpList Try.prog ops Q (o :: rest) a (w.alloc (.cells cs 43)) := by
  obtain ⟨i0, hi0, hz0, hz1, hz2⟩ := info_parts infoK
  refine append_one Try.underlying25 hi0 hz0 hz1 hz2 rfl (by decide) hgd s x ho hown.1 hs hlo (by rw [hcs]; rfl) ?_ hx hqz hlen (by unfold maxLen; omega) ?_
  · intro u hu; rw [hcs] at hu; simp [K.cells] at hu; rcases hu with rfl | rfl | rfl | rfl | rfl <;> rfl
  · intro v' w' h1 h2 h3 _ _ h6
    refine h v' w' ⟨?_, by rw [List.length_append]; exact hlen, fun z hz => ?_⟩ h2 h3 h6
    · rw [hcs] at h1
      rw [List.length_append, cellsK_app]
      simpa [cellsK] using h1
    · rcases List.mem_append.1 hz with hz | hz
      · exact hown.2.2 z hz
      · rw [List.mem_singleton.1 hz]; exact hy

/-! ### secrets -/
def OwnE (lo : Nat) (w : World) (l : List E) (v : Value) : Prop := w.ownsRow lo 53 2 v l.length (cellsE l) ∧ l.length * 40 ≤ 140737488355328 ∧
  ∀ w2 B2, w.heap.size ≤ B2 → (∀ p : Addr, lo ≤ p.block → p.block < w.heap.size → some p.block ≠ v.ownBlock → w2.cell? p = w.cell? p) → ∀ x ∈ l, Vs w2 B2 x.l x.A x.c ∧ x.s.size ≤ maxLen
theorem OwnE.nil (lo : Nat) (w : World) : OwnE lo w [] (.slice none 0 0) := ⟨⟨rfl, .inl ⟨rfl, rfl⟩⟩, by simp, fun _ _ _ _ x h => by cases h⟩
theorem OwnE.own {lo : Nat} {w : World} {l : List E} {v : Value} (h : OwnE lo w l v) : ∀ k, v.ownBlock = some k → lo ≤ k ∧ k < w.heap.size := h.1.lt
theorem OwnE.below {lo : Nat} {w w' : World} {l : List E} {v : Value} (h : OwnE lo w l v) (hb : Below w.heap.size w w') : OwnE lo w' l v :=
  ⟨h.1.kept (grown_below (World.grownBy.refl w none) hb) (by cases v.ownBlock with | none => exact .inl rfl | some k => exact .inr (fun e => by cases e)), h.2.1,
    fun w2 B2 hB hf x hx => h.2.2 w2 B2 (Nat.le_trans hb.size hB) (fun p p1 p2 p3 => (hf p p1 (Nat.lt_of_lt_of_le p2 hb.size) p3).trans (hb.cell p2)) x hx⟩
theorem OwnE.setCell {lo : Nat} {w : World} {l : List E} {v : Value} (h : OwnE lo w l v) {p : Addr} (hp : p.block < lo) (u : Value) : OwnE lo (w.setCell p u) l v := by
  obtain ⟨⟨hx, h1⟩, h2, h3⟩ := h
  refine ⟨⟨hx, ?_⟩, h2, fun w2 B2 hB hf => h3 w2 B2 (by simpa using hB) fun q q1 q2 q3 => (hf q q1 (by simpa using q2) q3).trans (World.cell?_setCell_far w p q u (by intro e; omega))⟩
  rcases h1 with h1 | ⟨g, cap, cur, e, hg, hb, hr⟩
  · exact .inl h1
  · exact .inr ⟨g, cap, cur, e, hg, Blk.far (t := 53) (cs := cur) hb (by omega) u, hr⟩
theorem OwnE.hes {lo : Nat} {w : World} {l : List E} {v : Value} (h : OwnE lo w l v) : ∃ A c, v = .slice A l.length c ∧ HEs w lo w.heap.size l A c := by
  obtain ⟨h1, h2, h3⟩ := h
  obtain ⟨A, c, e, hc, hn, _, hr⟩ := row_held h1
  exact ⟨A, c, e, fun w2 B2 hB hf => ⟨hc, h2, hn, hr w2 B2 hB hf, h3 w2 B2 hB fun p p1 p2 _ => hf p p1 p2⟩⟩
theorem append_E {ops : Array Oper} {rest : List Oper} {o : Oper} {a : Act} {Q : Exit → Act → World → Prop} (hgd : o.guard = none) (s x : Operand)
    (ho : o.op = .call { callee := .builtin .append, args := #[s, x], argTypes := #[24, 24] })
    {lo lo' hi : Nat} {w : World} {v : Value} {l : List E} {y : E} (hown : OwnE lo w l v) (hs : a.eval s = v) (hlo : lo ≤ w.heap.size) (hy : HVs w lo' hi y.l y.A y.c) (hys : y.s.size ≤ maxLen) (hhi : hi ≤ w.heap.size) (hlo' : lo ≤ lo') (hle : ∀ k, v.ownBlock = some k → k < lo') {cs : Array Value} (hcs : cs.toList = y.cells)
    {q : Nat} (hx : a.eval x = .slice (some ⟨q, 0, none⟩) 1 1) (hqz : q = w.heap.size) (hlen : (l.length + 1) * 40 ≤ 140737488355328)
    (h : ∀ v' w', OwnE lo w' (l ++ [y]) v' → Below lo w w' → w.heap.size ≤ w'.heap.size → (∀ g T c, T ≠ 53 → Blk w g T c → Blk w' g T c) → wpList Try.prog ops Q rest (a.put o.dst v') w') :
    wpList Try.prog ops Q (o :: rest) a (w.alloc (.cells cs 53)) := by
  obtain ⟨i0, hi0, hz0, hz1, hz2⟩ := info_parts infoE
  refine append_one Try.underlying24 hi0 hz0 hz1 hz2 rfl (by decide) hgd s x ho hown.1 hs hlo (by rw [hcs]; rfl) ?_ hx hqz hlen (by unfold maxLen; omega) ?_
  · intro u hu; rw [hcs] at hu; simp [E.cells] at hu; rcases hu with rfl | rfl <;> rfl
  · intro v' w' h1 h2 h3 h4 h5 h6
    have hold : ∀ p : Addr, p.block < w.heap.size → some p.block ≠ v.ownBlock → some p.block ≠ v'.ownBlock := fun p p2 p3 e => by
      rcases h5 with e1 | ⟨k, e1, hk⟩
      · exact p3 (by rw [← e1]; exact e)
      · rw [e1] at e; injection e with e; omega
    refine h v' w' ⟨?_, by rw [List.length_append]; exact hlen, fun w2 B2 hB hf z hz => ?_⟩ h2 h3 h6
    · rw [hcs] at h1
      rw [List.length_append, cellsE_app]
      simpa [cellsE] using h1
    · rcases List.mem_append.1 hz with hz | hz
      · exact hown.2.2 w2 B2 (by omega) (fun p p1 p2 p3 => (hf p p1 (by omega) (hold p p2 p3)).trans (h4 p p2 p3)) z hz
      · rw [List.mem_singleton.1 hz]
        refine ⟨hy w2 B2 (by omega) fun p p1 p2 => ?_, hys⟩
        have hne : some p.block ≠ v.ownBlock := fun e => by have := hle _ e.symm; omega
        exact (hf p (by omega) (by omega) (hold p (by omega) hne)).trans (h4 p (by omega) hne)
end Go.Proofs.Ytnkfboplafckoaa.nodes
