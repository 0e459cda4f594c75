/- climber.down. -/
import Derived.Test.YtnndohdiiglgmaaKTrV
import Derived.Test.YtnndohdiiglgmaaKMix


namespace Go.Proofs.Ytnndohdiiglgmaa.trees
set_option linter.unusedVariables false
set_option linter.unusedSimpArgs false
open Go.RowKit Go.Proofs.Ytnndohdiiglgmaa.base Go.Proofs.Ytnndohdiiglgmaa.vers Go.Proofs.Ytnndohdiiglgmaa.nodes Go.Proofs.Ytnndohdiiglgmaa.quotas

def zK : K := ⟨⟨#[]⟩, 0, 0, 0, 0⟩
/-- the place of the kid below which a name belongs -/
def belG (ks : List K) (s : ByteArray) : Nat → Nat
  | 0 => 0
  | i + 1 => if leB (ks[i]?.getD zK).s s then i else belG ks s i
def belP (ks : List K) (s : ByteArray) : Nat := belG ks s ks.length
theorem belG_zero {ks : List K} {s : ByteArray} (h : ∀ x ∈ ks, leB x.s s = false) : ∀ n, n ≤ ks.length → belG ks s n = 0
  | 0, _ => rfl
  | n + 1, hn => by
    rw [belG, List.getElem?_eq_getElem (by omega)]
    simp only [Option.getD_some]
    have h0 := h _ (List.getElem_mem (by omega : n < ks.length))
    rw [if_neg (by simp [h0])]
    exact belG_zero h n (by omega)
theorem belG_at {ks : List K} {s : ByteArray} {j : Nat} (hj : j < ks.length) (h : leB ks[j].s s = true) (h' : ∀ (i : Nat) (hi : i < ks.length), j < i → leB ks[i].s s = false) : ∀ n, n ≤ ks.length → j < n → belG ks s n = j
  | n + 1, hn, hjn => by
    rw [belG, List.getElem?_eq_getElem (by omega)]
    simp only [Option.getD_some]
    rcases Nat.lt_or_ge j n with h1 | h1
    · have h0 := h' n (by omega) h1
      rw [if_neg (by simp [h0])]
      exact belG_at hj h h' n (by omega) h1
    · obtain rfl : j = n := by omega
      rw [if_pos h]
theorem belP_lt {ks : List K} {s : ByteArray} (h : ks ≠ []) : belP ks s < ks.length := by
  have hp : 0 < ks.length := List.length_pos_iff.2 h
  have : ∀ n, n ≤ ks.length → belG ks s n < ks.length := by
    intro n
    induction n with
    | zero => intro _; exact hp
    | succ n ih =>
      intro hn
      rw [belG]
      split
      · omega
      · exact ih (by omega)
  exact this _ (Nat.le_refl _)
/-- where a name belongs, as it is answered -/
theorem belongs_p (ks : List K) (A : Option Addr) (c : Nat) (s : ByteArray) (w : World) (hK : Ks w w.heap.size ks A c) :
    Calls Try.prog 81 #[.slice A ks.length c, .string s] w fun e W' => e = .returned (.int .i64 (belP ks s : Int)) ∧ Below w.heap.size w W' :=
  (belongs_any ks A c s w hK).mono fun e W' ⟨h, hb⟩ => by
    refine ⟨?_, hb⟩
    rcases h with ⟨he, h1⟩ | ⟨j, hj, he, h1, h2⟩
    · rw [he, belP, belG_zero h1 _ (Nat.le_refl _)]; rfl
    · rw [he, belP, belG_at hj h1 h2 _ (Nat.le_refl _) hj]

/-- the way down from a page, and the leaf; or an error -/
def downE (ns : List P3) (s : ByteArray) : Nat → R → Nat → Except Int (List (P3 × Nat) × P3)
  | 0, _, _ => .error 70
  | f + 1, r, d => match pageE ns r d with
    | .error k => .error k
    | .ok x => if x.1 then .ok ([], x) else match downE ns s f (x.2.2[belP x.2.2 s]?.getD zK).r (d + 1) with
      | .error k => .error k
      | .ok (l, y) => .ok ((x, belP x.2.2 s) :: l, y)
/-- what comes behind a page -/
def afterE (ns : List P3) (s : ByteArray) (f : Nat) (x : P3) (d : Nat) : Except Int (List (P3 × Nat) × P3) :=
  if x.1 then .ok ([], x) else match downE ns s f (x.2.2[belP x.2.2 s]?.getD zK).r (d + 1) with
    | .error k => .error k
    | .ok (l, y) => .ok ((x, belP x.2.2 s) :: l, y)
theorem downE_err {ns : List P3} {s : ByteArray} {f : Nat} {r : R} {d : Nat} {k : Int} (h : pageE ns r d = .error k) : downE ns s (f + 1) r d = .error k := by rw [downE, h]
theorem downE_ok {ns : List P3} {s : ByteArray} {f : Nat} {r : R} {d : Nat} {x : P3} (h : pageE ns r d = .ok x) : downE ns s (f + 1) r d = afterE ns s f x d := by rw [downE, h, afterE]
def glue (pre : List (P3 × Nat)) : Except Int (List (P3 × Nat) × P3) → Except Int (List (P3 × Nat) × P3)
  | .error k => .error k
  | .ok (l, y) => .ok (pre ++ l, y)
theorem glue_nil (a : Except Int (List (P3 × Nat) × P3)) : glue [] a = a := by cases a <;> rfl
theorem glue_err {ns : List P3} {s : ByteArray} {f : Nat} {x : P3} {d : Nat} {k : Int} (pre : List (P3 × Nat)) (hx : x.1 = false) (h : pageE ns (x.2.2[belP x.2.2 s]?.getD zK).r (d + 1) = .error k) : glue pre (afterE ns s (f + 1) x d) = .error k := by
  rw [afterE, if_neg (by simp [hx]), downE_err h]; rfl
theorem glue_ok {ns : List P3} {s : ByteArray} {f : Nat} {x y : P3} {d : Nat} (pre : List (P3 × Nat)) (hx : x.1 = false) (h : pageE ns (x.2.2[belP x.2.2 s]?.getD zK).r (d + 1) = .ok y) : glue pre (afterE ns s (f + 1) x d) = glue (pre ++ [(x, belP x.2.2 s)]) (afterE ns s f y (d + 1)) := by
  rw [afterE, if_neg (by simp [hx]), downE_ok h]
  cases afterE ns s f y (d + 1) with
  | error k => rfl
  | ok v => obtain ⟨l, z⟩ := v; simp [glue]
theorem glue_leaf {ns : List P3} {s : ByteArray} {f : Nat} {x : P3} {d : Nat} (pre : List (P3 × Nat)) (hx : x.1 = true) : glue pre (afterE ns s f x d) = .ok (pre, x) := by
  rw [afterE, if_pos hx]; simp [glue]
theorem pageE_kids {ns : List P3} {r : R} {d : Nat} {x : P3} (h : pageE ns r d = .ok x) (hx : x.1 = false) : x.2.2 ≠ [] := by
  unfold pageE at h
  split at h
  · cases h
  · split at h
    · cases h
    · split at h
      · cases h
      · rename_i hn
        cases h
        exact fun e => hn ⟨hx, e⟩

/-! ### steps -/
def stc (x : N × Nat) : List Value := x.1.cells ++ [.int .i64 (x.2 : Int), .slice none 0 0, .slice none 0 0]
def cellsSt : List (N × Nat) → List Value
  | [] => []
  | x :: l => stc x ++ cellsSt l
theorem cellsSt_app : ∀ l m : List (N × Nat), cellsSt (l ++ m) = cellsSt l ++ cellsSt m
  | [], m => rfl
  | x :: l, m => by rw [List.cons_append, cellsSt, cellsSt_app l m, cellsSt, List.append_assoc]
theorem infoSt : (Try.prog.info? 134).map (fun i => (i.zero, i.size, i.bytes)) = some (some (.agg #[.bool false, .slice none 0 0, .slice none 0 0, .int .i64 0, .slice none 0 0, .slice none 0 0]), 6, 112) := by kernel_rfl

/-- a step's nodes lie in blocks F, apart from the row and from box g -/
def Steps (wr : World) (F : Nat → Prop) (v : Value) (way : List (N × Nat)) : Prop := wr.ownsRow 0 134 6 v way.length (cellsSt way) ∧ (∀ g, v.ownBlock = some g → F g) ∧ ∀ x ∈ way, OwnNF wr (fun g => F g ∧ some g ≠ v.ownBlock) x.1
theorem Steps.agree {w w' : World} {F : Nat → Prop} {v : Value} {way : List (N × Nat)} (h : Steps w F v way) (hk : Agree w w' F) : Steps w' F v way :=
  ⟨ownsRow_agree h.1 (fun g hg => hk g (h.2.1 g hg)), h.2.1, fun x hx => (h.2.2 x hx).agree (hk.mono fun g hg => hg.1)⟩
theorem Steps.mono {w : World} {F F' : Nat → Prop} {v : Value} {way : List (N × Nat)} (h : Steps w F v way) (hF : ∀ g, F g → F' g) : Steps w F' v way :=
  ⟨h.1, fun g hg => hF g (h.2.1 g hg), fun x hx => (h.2.2 x hx).mono fun g hg => ⟨hF g hg.1, hg.2⟩⟩
abbrev pst (x : N × Nat) : P3 × Nat := (x.1.p, x.2)

/-- where the way down stands: g: the node's variable -/
def DH (w0 : World) (h : Nat) (ns : List P3) (s : ByteArray) (total : Except Int (List (P3 × Nat) × P3)) (g : Nat) (v e : Value) (wr : World) : Prop :=
  Below w0.heap.size w0 wr ∧ Blk wr w0.heap.size 111 #[.iface 23 (.pointer (some ⟨h, 0, none⟩))] ∧ Blk wr (w0.heap.size + 1 + 1) 60 #[.bool false, .slice none 0 0, .slice none 0 0] ∧ w0.heap.size + 1 + 1 < g ∧
  ∃ (y : N) (way : List (N × Nat)) (B : Nat), Blk wr g 60 #[.bool y.lf, .slice y.A y.es.length y.c, .slice y.Q y.ks.length y.m] ∧ w0.heap.size + 3 ≤ B ∧ B ≤ wr.heap.size ∧ way.length ≤ 8 ∧ Steps wr (fun k => w0.heap.size + 3 ≤ k ∧ k < B ∧ k ≠ g) v (way) ∧
    ((∃ k : Int, k ≠ 0 ∧ e = .int .i64 k ∧ total = .error k) ∨
     (e = .int .i64 0 ∧ (∃ f, f + way.length = 8 ∧ total = glue (way.map pst) (afterE ns s f y.p (way.length + 1))) ∧ (∃ r, pageE ns r (way.length + 1) = .ok y.p) ∧ OwnNF wr (fun k => B ≤ k ∧ k < wr.heap.size ∧ k ≠ g) y))

def set3 (w : World) (g : Nat) (a b c : Value) : World := ((w.setCell ⟨g, 0, none⟩ a).setCell ⟨g, 1, none⟩ b).setCell ⟨g, 2, none⟩ c
theorem set3_heap (w : World) (g : Nat) (a b c : Value) (j : Nat) (h : j ≠ g) : (set3 w g a b c).heap[j]? = w.heap[j]? := by
  unfold set3
  rw [Below.heap_setCell _ _ _ _ (by simpa using h), Below.heap_setCell _ _ _ _ (by simpa using h), Below.heap_setCell _ _ _ _ (by simpa using h)]
theorem set3_size (w : World) (g : Nat) (a b c : Value) : (set3 w g a b c).heap.size = w.heap.size := by simp [set3]
theorem set3_below {B g : Nat} {w w' : World} (h : Below B w w') (hg : B ≤ g) (a b c : Value) : Below B w (set3 w' g a b c) :=
  ((h.setCell (p := ⟨g, 0, none⟩) hg a).setCell (p := ⟨g, 1, none⟩) hg b).setCell (p := ⟨g, 2, none⟩) hg c
theorem set3_blk {w : World} {g : Nat} {t : TypeId} {a b c : Value} (h : Blk w g t #[a, b, c]) (a' b' c' : Value) : Blk (set3 w g a' b' c') g t #[a', b', c'] := by
  unfold set3; have := ((h.put 0 a').put 1 b').put 2 c'; simpa using this
theorem set3_agree {w : World} {g : Nat} {F : Nat → Prop} (hF : ∀ k, F k → k ≠ g) (a b c : Value) : Agree w (set3 w g a b c) F := fun k hk => set3_heap _ _ _ _ _ _ (hF k hk)
theorem Below_of {w w' : World} (h : Keep (fun _ => False) w w') : Below w.heap.size w w' := ⟨h.os, h.tape, h.output, h.size, fun k hk => h.block k hk (fun h => h)⟩
/-- one step more -/
theorem DH_next {w0 wr wb w4 wp : World} {g B at_ : Nat} {v v' kc : Value} {tC : TypeId} {y y' : N} {way : List (N × Nat)}
    (b0 : Below w0.heap.size w0 wr) (kC : Blk wr w0.heap.size tC #[kc]) (kZ : Blk wr (w0.heap.size + 1 + 1) 60 #[.bool false, .slice none 0 0, .slice none 0 0]) (hg : w0.heap.size + 1 + 1 < g)
    (kG : Blk wr g 60 #[.bool y.lf, .slice y.A y.es.length y.c, .slice y.Q y.ks.length y.m]) (hB : w0.heap.size + 3 ≤ B) (hBr : B ≤ wr.heap.size)
    (hS : Steps wr (fun k => w0.heap.size + 3 ≤ k ∧ k < B ∧ k ≠ g) v way) (hy : OwnNF wr (fun k => B ≤ k ∧ k < wr.heap.size ∧ k ≠ g) y) (b1 : Below wr.heap.size wr wb)
    (ho : w4.ownsRow 0 134 6 v' (way.length + 1) (cellsSt way ++ stc (y, at_))) (hK : Keep (fun k => v.ownBlock = some k) wb w4) (hv : ∀ k, v'.ownBlock = some k → v.ownBlock = some k ∨ (wb.heap.size ≤ k ∧ k < w4.heap.size))
    (b2 : Below w4.heap.size w4 wp) : Below w0.heap.size w0 (set3 wp g (.bool y'.lf) (.slice y'.A y'.es.length y'.c) (.slice y'.Q y'.ks.length y'.m)) ∧ Blk (set3 wp g (.bool y'.lf) (.slice y'.A y'.es.length y'.c) (.slice y'.Q y'.ks.length y'.m)) w0.heap.size tC #[kc] ∧
      Blk (set3 wp g (.bool y'.lf) (.slice y'.A y'.es.length y'.c) (.slice y'.Q y'.ks.length y'.m)) (w0.heap.size + 1 + 1) 60 #[.bool false, .slice none 0 0, .slice none 0 0] ∧
      Blk (set3 wp g (.bool y'.lf) (.slice y'.A y'.es.length y'.c) (.slice y'.Q y'.ks.length y'.m)) g 60 #[.bool y'.lf, .slice y'.A y'.es.length y'.c, .slice y'.Q y'.ks.length y'.m] ∧
      w0.heap.size + 3 ≤ w4.heap.size ∧ w4.heap.size ≤ (set3 wp g (.bool y'.lf) (.slice y'.A y'.es.length y'.c) (.slice y'.Q y'.ks.length y'.m)).heap.size ∧
      Steps (set3 wp g (.bool y'.lf) (.slice y'.A y'.es.length y'.c) (.slice y'.Q y'.ks.length y'.m)) (fun k => w0.heap.size + 3 ≤ k ∧ k < w4.heap.size ∧ k ≠ g) v' (way ++ [(y, at_)]) := by
  have hgl := kG.lt
  have s1 := b1.size
  have s2 := hK.size
  have s3 := b2.size
  have hvo := fun k (hk : v.ownBlock = some k) => hS.2.1 k hk
  -- what lay in wr, apart from the row
  have hA : Agree wr w4 (fun k => k < wr.heap.size ∧ v.ownBlock ≠ some k) := fun k hk => (hK.block k (by omega) hk.2).trans (b1.block k hk.1)
  have hA2 : Agree wr wp (fun k => k < wr.heap.size ∧ v.ownBlock ≠ some k) := hA.trans (Agree.of_below b2 (fun k hk => by omega))
  have blk : ∀ {k : Nat} {t : TypeId} {cs : Array Value}, Blk wr k t cs → v.ownBlock ≠ some k → Blk wp k t cs := fun h hn => (hA2 _ ⟨h.lt, hn⟩).trans h
  have hb4 : Below w0.heap.size w0 w4 := (b0.trans (b1.mono b0.size)).trans (hK.below (fun k hk => by have := hvo k hk; omega) (by have := b0.size; omega))
  refine ⟨set3_below (hb4.trans (b2.mono (by have := b0.size; omega))) (by omega) _ _ _, ?_, ?_, ?_, by omega, by rw [set3_size]; exact s3, ?_, ?_, ?_⟩
  · exact (set3_heap _ _ _ _ _ _ (by omega)).trans (blk kC (fun e => by have := hvo _ e; omega))
  · exact (set3_heap _ _ _ _ _ _ (by omega)).trans (blk kZ (fun e => by have := hvo _ e; omega))
  · exact set3_blk (blk kG (fun e => (hvo _ e).2.2 rfl)) _ _ _
  · rw [List.length_append, List.length_singleton, cellsSt_app]
    refine ownsRow_agree (w := w4) (by simpa [cellsSt] using ho) (fun k hk => (set3_heap _ _ _ _ _ _ ?_).trans (b2.block k ?_))
    · rcases hv k hk with h1 | h1
      · exact (hvo k h1).2.2
      · omega
    · rcases hv k hk with h1 | h1
      · have := hvo k h1; omega
      · omega
  · intro k hk
    rcases hv k hk with h1 | h1
    · have := hvo k h1; omega
    · omega
  · intro x hx
    rcases List.mem_append.1 hx with h1 | h1
    · have h2 := hS.2.2 x h1
      refine ((h2.agree (hA2.mono fun k hk => ⟨by omega, fun e => hk.2 e.symm⟩)).agree (set3_agree (fun k hk => hk.1.2.2) _ _ _)).mono fun k hk => ⟨by omega, fun e => ?_⟩
      rcases hv k e.symm with h3 | h3
      · exact hk.2 h3.symm
      · omega
    · rw [List.mem_singleton.1 h1]
      refine ((hy.agree (hA2.mono fun k hk => ⟨hk.2.1, fun e => by have := hvo k e; omega⟩)).agree (set3_agree (fun k hk => hk.2.2) _ _ _)).mono fun k hk => ⟨by omega, fun e => ?_⟩
      rcases hv k e.symm with h3 | h3
      · have := hvo k h3; omega
      · omega
/-- what down leaves -/
def DPost (w : World) (total : Except Int (List (P3 × Nat) × P3)) (e : Ending) (w' : World) : Prop := Below w.heap.size w w' ∧ match total with
  | .error k => e = .returned (.tuple #[.slice none 0 0, zN, .int .i64 k])
  | .ok (l, x) => ∃ (v : Value) (y : N) (way : List (N × Nat)) (B : Nat), e = .returned (.tuple #[v, y.val, .int .i64 0]) ∧ way.map pst = l ∧ y.p = x ∧ Steps w' (fun k => w.heap.size ≤ k ∧ k < B) v way ∧ OwnNF w' (fun k => (w.heap.size ≤ k ∧ B ≤ k) ∧ k < w'.heap.size) y
theorem down_res {ns : List P3} {s : ByteArray} {f d : Nat} {x : P3} {pre : List (P3 × Nat)} {total : Except Int (List (P3 × Nat) × P3)} {kr : R} {wd w1 : World} {e : Ending} {B : Nat}
    (htot : total = glue pre (afterE ns s (f + 1) x d)) (hx : x.1 = false) (hk : (x.2.2[belP x.2.2 s]?.getD zK).r = kr) (hB : B ≤ wd.heap.size) (h : PPost wd (pageE ns kr (d + 1)) e w1) :
    ∃ (y : N) (er : Int), e = .returned (.tuple #[y.val, .int .i64 er]) ∧ Hid ((er ≠ 0 ∧ total = .error er) ∨
      (er = 0 ∧ total = glue (pre ++ [(x, belP x.2.2 s)]) (afterE ns s f y.p (d + 1)) ∧ (∃ r, pageE ns r (d + 1) = .ok y.p) ∧ OwnNF w1 (fun k => B ≤ k ∧ k < w1.heap.size) y)) := by
  subst hk
  obtain ⟨_, h⟩ := h
  cases hE : pageE ns (x.2.2[belP x.2.2 s]?.getD zK).r (d + 1) with
  | error k =>
    rw [hE] at h
    refine ⟨⟨false, [], [], none, 0, none, 0⟩, k, h, lay (.inl ⟨?_, ?_⟩)⟩
    · rcases pageE_err hE with rfl | rfl <;> decide
    · rw [htot, glue_err _ hx hE]
  | ok z =>
    rw [hE] at h
    obtain ⟨y, he, rfl, hO⟩ := h
    exact ⟨y, 0, he, lay (.inr ⟨rfl, by rw [htot, glue_ok _ hx hE], ⟨_, hE⟩, hO.mono fun k hk => ⟨by omega, hk.2⟩⟩)⟩
def lenOf : Value → Nat
  | .slice _ n _ => n
  | _ => 0

set_option maxRecDepth 100000 in
set_option maxHeartbeats 4000000 in
theorem down_any (h : Nat) (S : Nat → Prop) (ns : List P3) (r : R) (s : ByteArray) (w : World) (hh : Hp w h S ns) (hr : r.fits) :
    Calls Try.prog 47 #[clim h, r.val, .string s] w (DPost w (downE ns s 9 r 1)) := by
  have hp := fun w' (hb : Below w.heap.size w w') => page_any r 1 h S ns w' (hh.agree (fun g hg => hb.block g (hh.lt g hg)) hb.size) hr (by omega)
  have HT := vers.lay (rfl : downE ns s 9 r 1 = downE ns s 9 r 1)
  generalize ht : downE ns s 9 r 1 = total at HT ⊢
  obtain ⟨rk, rg, ro, rn⟩ := r
  have b2 : Below w.heap.size w (((w.alloc (.cells #[.iface 23 (.pointer (some ⟨h, 0, none⟩))] 111)).alloc (.cells #[.int .u64 (rk : Int), .int .i64 rg, .int .i64 ro, .int .i64 rn] 27)).alloc (.cells #[.bool false, .slice none 0 0, .slice none 0 0] 60)) := (((Below.refl _ _).alloc (Nat.le_refl _) _).alloc (by simp) _).alloc (by simp; omega) _
  have kC := ((Blk.new w 111 #[.iface 23 (.pointer (some ⟨h, 0, none⟩))]).alloc (.cells #[.int .u64 (rk : Int), .int .i64 rg, .int .i64 ro, .int .i64 rn] 27)).alloc (.cells #[.bool false, .slice none 0 0, .slice none 0 0] 60)
  have kZ := Blk.new ((w.alloc (.cells #[.iface 23 (.pointer (some ⟨h, 0, none⟩))] 111)).alloc (.cells #[.int .u64 (rk : Int), .int .i64 rg, .int .i64 ro, .int .i64 rn] 27)) 60 #[.bool false, .slice none 0 0, .slice none 0 0]
  simp only [World.size_alloc] at kZ
  go_enter Try.func47, Try.ntmps47
  go_wp2_with fail
  refine (hp _ b2).mono ?_
  rintro e w1 ⟨hb1, hres⟩
  have b1 := b2.trans (hb1.mono b2.size)
  have s1 := hb1.size
  simp only [World.size_alloc] at s1
  have kC1 := kC.below hb1 kC.lt
  have kZ1 := kZ.below hb1 kZ.lt
  have hS0 : ∀ w9 F, Steps w9 F (.slice none 0 0) [] := fun w9 F => ⟨⟨rfl, .inl ⟨rfl, rfl⟩⟩, (fun g hg => by cases hg), fun x hx => by cases hx⟩
  have hst : ∃ (y : N) (er : Int), e = .returned (.tuple #[y.val, .int .i64 er]) ∧ DH w h ns s total w1.heap.size (.slice none 0 0) (.int .i64 er) (w1.alloc (.cells #[.bool y.lf, .slice y.A y.es.length y.c, .slice y.Q y.ks.length y.m] 60)) := by
    cases hE : pageE ns ⟨rk, rg, ro, rn⟩ 1 with
    | error k =>
      rw [hE] at hres
      refine ⟨⟨false, [], [], none, 0, none, 0⟩, k, hres, b1.alloc (by omega) _, kC1.alloc _, kZ1.alloc _, by omega, ⟨false, [], [], none, 0, none, 0⟩, [], w1.heap.size, Blk.new _ _ _, by omega, by simp, by simp, hS0 _ _, .inl ⟨k, ?_, rfl, ?_⟩⟩
      · rcases pageE_err hE with rfl | rfl <;> decide
      · rw [← ht]; exact downE_err hE
    | ok x =>
      rw [hE] at hres
      obtain ⟨y, he, rfl, hyO⟩ := hres
      refine ⟨y, 0, he, b1.alloc (by omega) _, kC1.alloc _, kZ1.alloc _, by omega, y, [], w.heap.size + 3, Blk.new _ _ _, Nat.le_refl _, by simp; omega, by simp, hS0 _ _, .inr ⟨rfl, ⟨8, rfl, ?_⟩, ⟨_, hE⟩, ?_⟩⟩
      · rw [← ht]; simp only [List.map_nil, List.length_nil, glue_nil]; exact downE_ok hE
      · refine (hyO.agree (Agree.of_below (B := w1.heap.size) ((Below.refl _ _).alloc (Nat.le_refl _) _) (fun g hg => hg.2))).mono fun g hg => ?_
        simp only [World.size_alloc] at hg ⊢
        omega
  clear hp hres b2 kC kZ hb1 b1 kC1 kZ1 hS0 s1
  obtain ⟨y, er, rfl, hD⟩ := hst
  go_wp2_with fail
  generalize w1.alloc (.cells #[.bool y.lf, .slice y.A y.es.length y.c, .slice y.Q y.ks.length y.m] 60) = w2 at hD ⊢
  generalize w1.heap.size = g10 at hD ⊢
  go_loopw [9, 11] (fun v e wr => DH w h ns s total g10 v e wr) (fun v _ _ => 9 - lenOf v)
  case atStart => exact hD
  case round =>
    clear hD
    obtain ⟨b0, kC, kZ, hg, y, way, B, kG, hB, hBr, hwl, hS, hcase⟩ := hrel
    obtain ⟨PA, pc, rfl, hpc, hpn, _⟩ := row_rdF hS.1
    have c0 := kC.cell 0
    have z0 := kZ.cell 0
    have z1 := kZ.cell 1
    have z2 := kZ.cell 2
    have f0 := kZ.frozen 0
    have f1 := kZ.frozen 1
    have f2 := kZ.frozen 2
    have n0 := kG.cell 0
    have n1 := kG.cell 1
    have n2 := kG.cell 2
    simp at c0 z0 z1 z2 n0 n1 n2
    have lG := kG.lt
    rcases hcase with ⟨k, hk, rfl, htk⟩ | ⟨rfl, ⟨fu, hfu, htot⟩, ⟨r', hE⟩, hyO⟩
    · have d0 : (k == 0) = false := beq_eq_false_iff_ne.2 hk
      have d1 : (k != 0) = true := by simp [bne, d0]
      clear hk
      have kz := set3_blk kZ (.bool false) (.slice none 0 0) (.slice none 0 0)
      have bz := set3_below b0 (g := w.heap.size + 1 + 1) (by omega) (.bool false) (.slice none 0 0) (.slice none 0 0)
      go_wp2_with fail
      unfold set3 at kz bz
      generalize ((wr.setCell ⟨w.heap.size + 1 + 1, 0, none⟩ (.bool false)).setCell ⟨w.heap.size + 1 + 1, 1, none⟩ (.slice none 0 0)).setCell ⟨w.heap.size + 1 + 1, 2, none⟩ (.slice none 0 0) = wX at kz bz ⊢
      have z0 := kz.cell 0
      have z1 := kz.cell 1
      have z2 := kz.cell 2
      simp at z0 z1 z2
      refine bodyPost_ret (v := .tuple #[.slice none 0 0, zN, .int .i64 k]) (by simp [results, Try.results47, go_sem, z0, z1, z2]) rfl ⟨bz, ?_⟩
      rw [htk]
    · obtain ⟨lf, es, ks, A, c, Q, m⟩ := y
      cases lf with
      | true =>
        have kz := set3_blk kZ (.bool true) (.slice A es.length c) (.slice Q ks.length m)
        have bz := set3_below b0 (g := w.heap.size + 1 + 1) (by omega) (.bool true) (.slice A es.length c) (.slice Q ks.length m)
        have az := fun F hF => set3_agree (w := wr) (g := w.heap.size + 1 + 1) (F := F) hF (.bool true) (.slice A es.length c) (.slice Q ks.length m)
        have sz := set3_size wr (w.heap.size + 1 + 1) (.bool true) (.slice A es.length c) (.slice Q ks.length m)
        go_wp2_with fail
        go_region_with (fail)
        simp only [Act.put, List.setIfInBounds_toArray, List.set_cons_zero, List.set_cons_succ, List.getElem_toArray, List.getElem_cons_zero, List.getElem_cons_succ]
        go_wp2_with fail
        unfold set3 at kz bz az sz
        generalize (((wr.setCell ⟨w.heap.size + 1 + 1, 0, none⟩ (.bool true)).setCell ⟨w.heap.size + 1 + 1, 1, none⟩ (.slice A es.length c)).setCell ⟨w.heap.size + 1 + 1, 2, none⟩ (.slice Q ks.length m)) = wX at kz bz az sz ⊢
        have z0 := kz.drew.cell 0
        have z1 := kz.drew.cell 1
        have z2 := kz.drew.cell 2
        simp at z0 z1 z2
        refine bodyPost_ret (v := .tuple #[.slice PA way.length pc, (⟨true, es, ks, A, c, Q, m⟩ : N).val, .int .i64 0]) (by simp [results, Try.results47, go_sem, z0, z1, z2]) rfl ⟨bz.drew, ?_⟩
        rw [htot, glue_leaf _ rfl]
        refine ⟨_, ⟨true, es, ks, A, c, Q, m⟩, way, B, rfl, rfl, rfl, ?_, ?_⟩
        · exact (((hS.agree (az _ (fun k hk => by omega))).agree (w' := wX.drew) (fun _ _ => rfl))).mono fun k hk => ⟨by omega, hk.2.1⟩
        · refine ((hyO.agree (az _ (fun k hk => by omega))).agree (w' := wX.drew) (fun _ _ => rfl)).mono fun k hk => ⟨⟨by omega, hk.1⟩, ?_⟩
          show k < wX.heap.size
          omega
      | false =>
        have hks : ks ≠ [] := pageE_kids hE rfl
        have hbl : belP ks s < ks.length := belP_lt hks
        have hd8 := pageE_le hE
        have yk := hyO.2.1.ks
        obtain ⟨_, _, e1, yk⟩ := yk
        injection e1 with e1 _ e2
        subst e1 e2
        have i0 := info_parts infoSt
        obtain ⟨i0, hi0, hz0, hz1, hz2⟩ := i0
        have hbel := belongs_p ks Q m s wr yk.ks
        go_wp2_with fail
        refine hbel.mono ?_
        rintro e wb ⟨rfl, b1⟩
        have hvo := fun k (hk : (Value.slice PA way.length pc).ownBlock = some k) => hS.2.1 k hk
        have n0 := (b1.cell (p := ⟨g10, 0, none⟩) lG).trans n0
        have n1 := (b1.cell (p := ⟨g10, 1, none⟩) lG).trans n1
        have n2 := (b1.cell (p := ⟨g10, 2, none⟩) lG).trans n2
        have lGb := Nat.lt_of_lt_of_le lG b1.size
        have hob := row_below hS.1 b1
        clear hbel z0 z1 z2 f0 f1 f2 c0
        go_wp2_with (at_builtin; refine wpList_put1 Try.underlying113 hi0 hz0 hz1 hz2 rfl (by decide) rfl (.tmp 30) (.tmp 34) rfl (w := wb) (v := .slice PA way.length pc) (n := way.length) (xs := cellsSt way) hob rfl rfl (by intro u hu; simp at hu; rcases hu with rfl | rfl | rfl | rfl | rfl | rfl <;> rfl) rfl rfl (by omega) (by unfold maxLen; omega) ?_; intro v9 w4 ho9 hK9 hv9 hs9)
        obtain ⟨PA9, pc9, rfl, _, _, _⟩ := row_rdF ho9
        have hA4 : ∀ k, k < wr.heap.size → ¬ (Value.slice PA way.length pc).ownBlock = some k → w4.heap[k]? = wr.heap[k]? := fun k h1 h2 => (hK9.block k (by have := b1.size; omega) h2).trans (b1.block k h1)
        have kG4 : Blk w4 g10 60 #[.bool false, .slice A es.length c, .slice Q ks.length m] := (hA4 _ lG (fun e => (hvo _ e).2.2 rfl)).trans kG
        have kC4 : Blk w4 w.heap.size 111 #[.iface 23 (.pointer (some ⟨h, 0, none⟩))] := (hA4 _ kC.lt (fun e => by have := hvo _ e; omega)).trans kC
        have yk4 := yk.agree (w' := w4) (fun k hk => hA4 k hk.2.1 (fun e => by have := hvo k e; omega))
        have xf := yk4.2.2.2.2 _ (List.getElem_mem hbl)
        obtain ⟨bk, off, rfl, hbk, x0, x1, x2, x3, x4⟩ := yk4.ks.at_ hbl
        have y0 := kC4.cell 0
        have y2 := kG4.cell 2
        simp at y0 y2
        have lG4 := kG4.lt
        have lC4 := kC4.lt
        have k1 : (0 : Int) ≤ (belP ks s : Int) := by omega
        have k2 : (belP ks s : Int) < (ks.length : Int) := by omega
        have b04 : Below w.heap.size w w4 := (b0.trans (b1.mono b0.size)).trans (hK9.below (fun k hk => by have := hvo k hk; omega) (by have := b0.size; have := b1.size; omega))
        have hkd : (ks[belP ks s]?.getD zK).r = ks[belP ks s].r := by rw [List.getElem?_eq_getElem hbl]; rfl
        obtain ⟨f', rfl⟩ : ∃ f', fu = f' + 1 := ⟨fu - 1, by omega⟩
        have hpg := fun w' (hk : Keep (fun _ => False) w4 w') => page_any ks[belP ks s].r (way.length + 2) h S ns w' (hh.agree (fun g hg => (hk.block g (Nat.lt_of_lt_of_le (hh.lt g hg) b04.size) (fun h => h)).trans (b04.block g (hh.lt g hg))) (Nat.le_trans b04.size hk.size)) ⟨xf.2.1, xf.2.2.1, xf.2.2.2.1, xf.2.2.2.2⟩ (by omega)
        rw [show ((way.length + 2 : Nat) : Int) = (way.length : Int) + 1 + 1 by omega] at hpg
        have ed : IntKind.i64.wrap ((way.length : Int) + 1 + 1) = (way.length : Int) + 1 + 1 := IntWalk.i64_in _ (by omega)
        have HT := vers.lay htot
        have HK := vers.lay hkd
        have HF := vers.lay hfu
        have hnx := fun wp y' b2 => DH_next (w0 := w) (wr := wr) (wb := wb) (w4 := w4) (wp := wp) (y' := y') (at_ := belP ks s) b0 kC kZ hg kG hB hBr hS hyO b1 ho9 hK9 hv9 b2
        clear hkd htot hfu n0 n1 n2 x0 hob hS hyO yk yk4 kC kZ kG b1 hA4 hK9 ho9 hv9 hh hE hks b0 hvo
        have hS1 : Below w4.heap.size w4 w4.drew := (Below.refl _ _).drew
        have hS0 : Keep (fun _ => False) w4 w4.drew := Keep.of_below hS1
        refine mix.region_D (fun w' => Keep (fun _ => False) w4 w') (fun j => decide (11 ≤ j)) (by kernel_rfl) ?_
        generalize w4.drew = w4d at hS0 hS1 ⊢
        refine mix.D_takeT (i := 0) (v := ?_) rfl (by kernel_rfl) (by kernel_rfl) (fun _ _ _ h => h) (Or.inl ⟨by rfl, ?_⟩) hS0 ?_
        rotate_left
        · intro w' hSw
          have y0 := (hSw.cell (p := ⟨w.heap.size, 0, none⟩) lC4 id).trans y0
          have y1 := (hSw.cell (p := ⟨g10, 2, none⟩) lG4 id).trans y2
          have y2 := (hSw.cell (p := ⟨bk, off + belP ks s * 5 + 1, none⟩) hbk id).trans x1
          have y3 := (hSw.cell (p := ⟨bk, off + belP ks s * 5 + 2, none⟩) hbk id).trans x2
          have y4 := (hSw.cell (p := ⟨bk, off + belP ks s * 5 + 3, none⟩) hbk id).trans x3
          have y5 := (hSw.cell (p := ⟨bk, off + belP ks s * 5 + 4, none⟩) hbk id).trans x4
          try simp only [List.getElem_toArray, List.getElem_cons_zero, List.getElem_cons_succ]
          go_simp
          exact rfl
        try simp only [Act.put, List.setIfInBounds_toArray, List.set_cons_zero, List.set_cons_succ, List.getElem_toArray, List.getElem_cons_zero, List.getElem_cons_succ]
        refine mix.D_takeT (i := 1) (v := ?_) rfl (by kernel_rfl) (by kernel_rfl) (fun _ _ _ h => h) (Or.inl ⟨by rfl, ?_⟩) hS0 ?_
        rotate_left
        · intro w' hSw
          have y0 := (hSw.cell (p := ⟨w.heap.size, 0, none⟩) lC4 id).trans y0
          have y1 := (hSw.cell (p := ⟨g10, 2, none⟩) lG4 id).trans y2
          have y2 := (hSw.cell (p := ⟨bk, off + belP ks s * 5 + 1, none⟩) hbk id).trans x1
          have y3 := (hSw.cell (p := ⟨bk, off + belP ks s * 5 + 2, none⟩) hbk id).trans x2
          have y4 := (hSw.cell (p := ⟨bk, off + belP ks s * 5 + 3, none⟩) hbk id).trans x3
          have y5 := (hSw.cell (p := ⟨bk, off + belP ks s * 5 + 4, none⟩) hbk id).trans x4
          try simp only [List.getElem_toArray, List.getElem_cons_zero, List.getElem_cons_succ]
          go_simp
          exact rfl
        try simp only [Act.put, List.setIfInBounds_toArray, List.set_cons_zero, List.set_cons_succ, List.getElem_toArray, List.getElem_cons_zero, List.getElem_cons_succ]
        refine mix.D_takeT (i := 2) (v := ?_) rfl (by kernel_rfl) (by kernel_rfl) (fun _ _ _ h => h) (Or.inl ⟨by rfl, ?_⟩) hS0 ?_
        rotate_left
        · intro w' hSw
          have y0 := (hSw.cell (p := ⟨w.heap.size, 0, none⟩) lC4 id).trans y0
          have y1 := (hSw.cell (p := ⟨g10, 2, none⟩) lG4 id).trans y2
          have y2 := (hSw.cell (p := ⟨bk, off + belP ks s * 5 + 1, none⟩) hbk id).trans x1
          have y3 := (hSw.cell (p := ⟨bk, off + belP ks s * 5 + 2, none⟩) hbk id).trans x2
          have y4 := (hSw.cell (p := ⟨bk, off + belP ks s * 5 + 3, none⟩) hbk id).trans x3
          have y5 := (hSw.cell (p := ⟨bk, off + belP ks s * 5 + 4, none⟩) hbk id).trans x4
          try simp only [List.getElem_toArray, List.getElem_cons_zero, List.getElem_cons_succ]
          go_simp
          exact rfl
        try simp only [Act.put, List.setIfInBounds_toArray, List.set_cons_zero, List.set_cons_succ, List.getElem_toArray, List.getElem_cons_zero, List.getElem_cons_succ]
        refine mix.D_takeT (i := 3) (v := ?_) rfl (by kernel_rfl) (by kernel_rfl) (fun _ _ _ h => h) (Or.inl ⟨by rfl, ?_⟩) hS0 ?_
        rotate_left
        · intro w' hSw
          have y0 := (hSw.cell (p := ⟨w.heap.size, 0, none⟩) lC4 id).trans y0
          have y1 := (hSw.cell (p := ⟨g10, 2, none⟩) lG4 id).trans y2
          have y2 := (hSw.cell (p := ⟨bk, off + belP ks s * 5 + 1, none⟩) hbk id).trans x1
          have y3 := (hSw.cell (p := ⟨bk, off + belP ks s * 5 + 2, none⟩) hbk id).trans x2
          have y4 := (hSw.cell (p := ⟨bk, off + belP ks s * 5 + 3, none⟩) hbk id).trans x3
          have y5 := (hSw.cell (p := ⟨bk, off + belP ks s * 5 + 4, none⟩) hbk id).trans x4
          try simp only [List.getElem_toArray, List.getElem_cons_zero, List.getElem_cons_succ]
          go_simp
          exact rfl
        try simp only [Act.put, List.setIfInBounds_toArray, List.set_cons_zero, List.set_cons_succ, List.getElem_toArray, List.getElem_cons_zero, List.getElem_cons_succ]
        refine mix.D_takeT (i := 4) (v := ?_) rfl (by kernel_rfl) (by kernel_rfl) (fun _ _ _ h => h) (Or.inl ⟨by rfl, ?_⟩) hS0 ?_
        rotate_left
        · intro w' hSw
          have y0 := (hSw.cell (p := ⟨w.heap.size, 0, none⟩) lC4 id).trans y0
          have y1 := (hSw.cell (p := ⟨g10, 2, none⟩) lG4 id).trans y2
          have y2 := (hSw.cell (p := ⟨bk, off + belP ks s * 5 + 1, none⟩) hbk id).trans x1
          have y3 := (hSw.cell (p := ⟨bk, off + belP ks s * 5 + 2, none⟩) hbk id).trans x2
          have y4 := (hSw.cell (p := ⟨bk, off + belP ks s * 5 + 3, none⟩) hbk id).trans x3
          have y5 := (hSw.cell (p := ⟨bk, off + belP ks s * 5 + 4, none⟩) hbk id).trans x4
          try simp only [List.getElem_toArray, List.getElem_cons_zero, List.getElem_cons_succ]
          go_simp
          exact rfl
        try simp only [Act.put, List.setIfInBounds_toArray, List.set_cons_zero, List.set_cons_succ, List.getElem_toArray, List.getElem_cons_zero, List.getElem_cons_succ]
        refine mix.D_takeT (i := 5) (v := ?_) rfl (by kernel_rfl) (by kernel_rfl) (fun _ _ _ h => h) (Or.inl ⟨by rfl, ?_⟩) hS0 ?_
        rotate_left
        · intro w' hSw
          have y0 := (hSw.cell (p := ⟨w.heap.size, 0, none⟩) lC4 id).trans y0
          have y1 := (hSw.cell (p := ⟨g10, 2, none⟩) lG4 id).trans y2
          have y2 := (hSw.cell (p := ⟨bk, off + belP ks s * 5 + 1, none⟩) hbk id).trans x1
          have y3 := (hSw.cell (p := ⟨bk, off + belP ks s * 5 + 2, none⟩) hbk id).trans x2
          have y4 := (hSw.cell (p := ⟨bk, off + belP ks s * 5 + 3, none⟩) hbk id).trans x3
          have y5 := (hSw.cell (p := ⟨bk, off + belP ks s * 5 + 4, none⟩) hbk id).trans x4
          try simp only [List.getElem_toArray, List.getElem_cons_zero, List.getElem_cons_succ]
          go_simp
          exact rfl
        try simp only [Act.put, List.setIfInBounds_toArray, List.set_cons_zero, List.set_cons_succ, List.getElem_toArray, List.getElem_cons_zero, List.getElem_cons_succ]
        refine mix.D_takeT (i := 6) (v := ?_) rfl (by kernel_rfl) (by kernel_rfl) (fun _ _ _ h => h) (Or.inl ⟨by rfl, ?_⟩) hS0 ?_
        rotate_left
        · intro w' hSw
          have y0 := (hSw.cell (p := ⟨w.heap.size, 0, none⟩) lC4 id).trans y0
          have y1 := (hSw.cell (p := ⟨g10, 2, none⟩) lG4 id).trans y2
          have y2 := (hSw.cell (p := ⟨bk, off + belP ks s * 5 + 1, none⟩) hbk id).trans x1
          have y3 := (hSw.cell (p := ⟨bk, off + belP ks s * 5 + 2, none⟩) hbk id).trans x2
          have y4 := (hSw.cell (p := ⟨bk, off + belP ks s * 5 + 3, none⟩) hbk id).trans x3
          have y5 := (hSw.cell (p := ⟨bk, off + belP ks s * 5 + 4, none⟩) hbk id).trans x4
          try simp only [List.getElem_toArray, List.getElem_cons_zero, List.getElem_cons_succ]
          go_simp
          exact rfl
        try simp only [Act.put, List.setIfInBounds_toArray, List.set_cons_zero, List.set_cons_succ, List.getElem_toArray, List.getElem_cons_zero, List.getElem_cons_succ]
        refine mix.D_takeT (i := 7) (v := ?_) rfl (by kernel_rfl) (by kernel_rfl) (fun _ _ _ h => h) (Or.inl ⟨by rfl, ?_⟩) hS0 ?_
        rotate_left
        · intro w' hSw
          have y0 := (hSw.cell (p := ⟨w.heap.size, 0, none⟩) lC4 id).trans y0
          have y1 := (hSw.cell (p := ⟨g10, 2, none⟩) lG4 id).trans y2
          have y2 := (hSw.cell (p := ⟨bk, off + belP ks s * 5 + 1, none⟩) hbk id).trans x1
          have y3 := (hSw.cell (p := ⟨bk, off + belP ks s * 5 + 2, none⟩) hbk id).trans x2
          have y4 := (hSw.cell (p := ⟨bk, off + belP ks s * 5 + 3, none⟩) hbk id).trans x3
          have y5 := (hSw.cell (p := ⟨bk, off + belP ks s * 5 + 4, none⟩) hbk id).trans x4
          try simp only [List.getElem_toArray, List.getElem_cons_zero, List.getElem_cons_succ]
          go_simp
          exact rfl
        try simp only [Act.put, List.setIfInBounds_toArray, List.set_cons_zero, List.set_cons_succ, List.getElem_toArray, List.getElem_cons_zero, List.getElem_cons_succ]
        refine mix.D_takeT (i := 8) (v := ?_) rfl (by kernel_rfl) (by kernel_rfl) (fun _ _ _ h => h) (Or.inl ⟨by rfl, ?_⟩) hS0 ?_
        rotate_left
        · intro w' hSw
          have y0 := (hSw.cell (p := ⟨w.heap.size, 0, none⟩) lC4 id).trans y0
          have y1 := (hSw.cell (p := ⟨g10, 2, none⟩) lG4 id).trans y2
          have y2 := (hSw.cell (p := ⟨bk, off + belP ks s * 5 + 1, none⟩) hbk id).trans x1
          have y3 := (hSw.cell (p := ⟨bk, off + belP ks s * 5 + 2, none⟩) hbk id).trans x2
          have y4 := (hSw.cell (p := ⟨bk, off + belP ks s * 5 + 3, none⟩) hbk id).trans x3
          have y5 := (hSw.cell (p := ⟨bk, off + belP ks s * 5 + 4, none⟩) hbk id).trans x4
          try simp only [List.getElem_toArray, List.getElem_cons_zero, List.getElem_cons_succ]
          go_simp
          exact rfl
        try simp only [Act.put, List.setIfInBounds_toArray, List.set_cons_zero, List.set_cons_succ, List.getElem_toArray, List.getElem_cons_zero, List.getElem_cons_succ]
        refine mix.D_takeT (i := 9) (v := ?_) rfl (by kernel_rfl) (by kernel_rfl) (fun _ _ _ h => h) (Or.inl ⟨by rfl, ?_⟩) hS0 ?_
        rotate_left
        · intro w' hSw
          have y0 := (hSw.cell (p := ⟨w.heap.size, 0, none⟩) lC4 id).trans y0
          have y1 := (hSw.cell (p := ⟨g10, 2, none⟩) lG4 id).trans y2
          have y2 := (hSw.cell (p := ⟨bk, off + belP ks s * 5 + 1, none⟩) hbk id).trans x1
          have y3 := (hSw.cell (p := ⟨bk, off + belP ks s * 5 + 2, none⟩) hbk id).trans x2
          have y4 := (hSw.cell (p := ⟨bk, off + belP ks s * 5 + 3, none⟩) hbk id).trans x3
          have y5 := (hSw.cell (p := ⟨bk, off + belP ks s * 5 + 4, none⟩) hbk id).trans x4
          try simp only [List.getElem_toArray, List.getElem_cons_zero, List.getElem_cons_succ]
          go_simp
          exact rfl
        try simp only [Act.put, List.setIfInBounds_toArray, List.set_cons_zero, List.set_cons_succ, List.getElem_toArray, List.getElem_cons_zero, List.getElem_cons_succ]
        refine mix.D_op (k := 10) rfl rfl (by kernel_rfl) (fun K' hK => ?_)
        simp only [List.getElem_toArray, List.getElem_cons_zero, List.getElem_cons_succ]
        go_wp2_with fail
        refine (hpg _ hS0).mono ?_
        rintro e wb1 hq
        have hs1 := hq.1
        obtain ⟨⟨ylf, yes, yks, yA, yc, yQ, ym⟩, er, rfl, HR⟩ := down_res (B := w4.heap.size) HT.out rfl HK.out hS0.size hq
        have hdw := hnx wb1 ⟨ylf, yes, yks, yA, yc, yQ, ym⟩ (((Below_of hS0).trans (hs1.mono (Below_of hS0).size)))
        have kx := (kG4.below (Below_of hS0) lG4).below hs1 (Nat.lt_of_lt_of_le lG4 (Below_of hS0).size)
        have n0 := kx.cell 0
        have n1 := kx.cell 1
        have n2 := kx.cell 2
        have f0 := kx.frozen 0
        have f1 := kx.frozen 1
        have f2 := kx.frozen 2
        have fl := kx.lt
        simp at n0 n1 n2
        clear hq
        have hb1 := hS0.seq hs1
        refine hK.out _ _ (fun _ => hb1) ?_
        clear hK K'
        try simp only [Act.put, List.setIfInBounds_toArray, List.set_cons_zero, List.set_cons_succ]
        refine mix.D_op (k := 11) rfl rfl (by kernel_rfl) (fun K' hK => ?_)
        simp only [List.getElem_toArray, List.getElem_cons_zero, List.getElem_cons_succ]
        go_wp2_with fail
        refine hK.out _ _ (fun h => by simp at h) ?_
        clear hK K'
        try simp only [Act.put, List.setIfInBounds_toArray, List.set_cons_zero, List.set_cons_succ]
        refine mix.D_two (k := 12) (j := 13) rfl rfl rfl rfl (by kernel_rfl) (fun K' hK => ?_) (fun K' hK => ?_)
        · simp only [List.getElem_toArray, List.getElem_cons_zero, List.getElem_cons_succ]
          go_wp2_with fail
          refine hK.out _ _ (fun h => by simp at h) ?_
          clear hK K'
          try simp only [Act.put, List.setIfInBounds_toArray, List.set_cons_zero, List.set_cons_succ]
          refine mix.D_two (k := 13) (j := 14) rfl rfl rfl rfl (by kernel_rfl) (fun K' hK => ?_) (fun K' hK => ?_)
          · simp only [List.getElem_toArray, List.getElem_cons_zero, List.getElem_cons_succ]
            go_wp2_with fail
            refine hK.out _ _ (fun h => by simp at h) ?_
            clear hK K'
            try simp only [Act.put, List.setIfInBounds_toArray, List.set_cons_zero, List.set_cons_succ]
            refine mix.D_op (k := 14) rfl rfl (by kernel_rfl) (fun K' hK => ?_)
            simp only [List.getElem_toArray, List.getElem_cons_zero, List.getElem_cons_succ]
            go_wp2_with fail
            refine hK.out _ _ (fun h => by simp at h) ?_
            clear hK K'
            try simp only [Act.put, List.setIfInBounds_toArray, List.set_cons_zero, List.set_cons_succ]
            refine mix.D_op (k := 15) rfl rfl (by kernel_rfl) (fun K' hK => ?_)
            simp only [List.getElem_toArray, List.getElem_cons_zero, List.getElem_cons_succ]
            go_wp2_with fail
            refine hK.out _ _ (fun h => by simp at h) ?_
            clear hK K'
            refine mix.D_done (by kernel_rfl) ?_ _
            try simp only [Act.put, List.getElem_toArray, List.getElem_cons_zero, List.getElem_cons_succ, List.setIfInBounds_toArray, List.set_cons_zero, List.set_cons_succ]
            go_wp2_with fail
            obtain ⟨q1, q2, q3, q4, q5, q6, q7⟩ := hdw
            unfold set3 at q1 q2 q3 q4 q6 q7
            refine ⟨⟨q1, q2, q3, hg, ⟨ylf, yes, yks, yA, yc, yQ, ym⟩, way ++ [((⟨false, es, ks, A, c, some ⟨bk, off, none⟩, m⟩ : N), belP ks s)], w4.heap.size, q4, q5, q6, by rw [List.length_append, List.length_singleton]; omega, q7, ?_⟩, by simp only [lenOf]; omega⟩
            rcases HR.out with ⟨h1, h2⟩ | ⟨rfl, h2, h3, h4⟩
            · exact .inl ⟨er, h1, rfl, h2⟩
            · refine .inr ⟨rfl, ⟨f', by rw [List.length_append, List.length_singleton]; have := HF.out; omega, by rw [h2, List.map_append, List.length_append, List.length_singleton]; rfl⟩, (by rw [List.length_append, List.length_singleton]; exact h3), ?_⟩
              have hgw : g10 < w4.heap.size := lG4
              exact (h4.agree (set3_agree (fun k hk => by omega) _ _ _)).mono fun k hk => ⟨hk.1, by rw [show (((wb1.setCell ⟨g10, 0, none⟩ (.bool ylf)).setCell ⟨g10, 1, none⟩ (.slice yA yes.length yc)).setCell ⟨g10, 2, none⟩ (.slice yQ yks.length ym)).heap.size = wb1.heap.size by simp]; exact hk.2, by omega⟩
          · simp only [List.getElem_toArray, List.getElem_cons_zero, List.getElem_cons_succ]
            go_wp2_with fail
            refine hK.out _ _ (fun h => by simp at h) ?_
            clear hK K'
            try simp only [Act.put, List.setIfInBounds_toArray, List.set_cons_zero, List.set_cons_succ]
            refine mix.D_op (k := 13) rfl rfl (by kernel_rfl) (fun K' hK => ?_)
            simp only [List.getElem_toArray, List.getElem_cons_zero, List.getElem_cons_succ]
            go_wp2_with fail
            refine hK.out _ _ (fun h => by simp at h) ?_
            clear hK K'
            try simp only [Act.put, List.setIfInBounds_toArray, List.set_cons_zero, List.set_cons_succ]
            refine mix.D_op (k := 15) rfl rfl (by kernel_rfl) (fun K' hK => ?_)
            simp only [List.getElem_toArray, List.getElem_cons_zero, List.getElem_cons_succ]
            go_wp2_with fail
            refine hK.out _ _ (fun h => by simp at h) ?_
            clear hK K'
            refine mix.D_done (by kernel_rfl) ?_ _
            try simp only [Act.put, List.getElem_toArray, List.getElem_cons_zero, List.getElem_cons_succ, List.setIfInBounds_toArray, List.set_cons_zero, List.set_cons_succ]
            go_wp2_with fail
            obtain ⟨q1, q2, q3, q4, q5, q6, q7⟩ := hdw
            unfold set3 at q1 q2 q3 q4 q6 q7
            refine ⟨⟨q1, q2, q3, hg, ⟨ylf, yes, yks, yA, yc, yQ, ym⟩, way ++ [((⟨false, es, ks, A, c, some ⟨bk, off, none⟩, m⟩ : N), belP ks s)], w4.heap.size, q4, q5, q6, by rw [List.length_append, List.length_singleton]; omega, q7, ?_⟩, by simp only [lenOf]; omega⟩
            rcases HR.out with ⟨h1, h2⟩ | ⟨rfl, h2, h3, h4⟩
            · exact .inl ⟨er, h1, rfl, h2⟩
            · refine .inr ⟨rfl, ⟨f', by rw [List.length_append, List.length_singleton]; have := HF.out; omega, by rw [h2, List.map_append, List.length_append, List.length_singleton]; rfl⟩, (by rw [List.length_append, List.length_singleton]; exact h3), ?_⟩
              have hgw : g10 < w4.heap.size := lG4
              exact (h4.agree (set3_agree (fun k hk => by omega) _ _ _)).mono fun k hk => ⟨hk.1, by rw [show (((wb1.setCell ⟨g10, 0, none⟩ (.bool ylf)).setCell ⟨g10, 1, none⟩ (.slice yA yes.length yc)).setCell ⟨g10, 2, none⟩ (.slice yQ yks.length ym)).heap.size = wb1.heap.size by simp]; exact hk.2, by omega⟩
        · simp only [List.getElem_toArray, List.getElem_cons_zero, List.getElem_cons_succ]
          go_wp2_with fail
          refine hK.out _ _ (fun h => by simp at h) ?_
          clear hK K'
          try simp only [Act.put, List.setIfInBounds_toArray, List.set_cons_zero, List.set_cons_succ]
          refine mix.D_op (k := 12) rfl rfl (by kernel_rfl) (fun K' hK => ?_)
          simp only [List.getElem_toArray, List.getElem_cons_zero, List.getElem_cons_succ]
          go_wp2_with fail
          refine hK.out _ _ (fun h => by simp at h) ?_
          clear hK K'
          try simp only [Act.put, List.setIfInBounds_toArray, List.set_cons_zero, List.set_cons_succ]
          refine mix.D_op (k := 14) rfl rfl (by kernel_rfl) (fun K' hK => ?_)
          simp only [List.getElem_toArray, List.getElem_cons_zero, List.getElem_cons_succ]
          go_wp2_with fail
          refine hK.out _ _ (fun h => by simp at h) ?_
          clear hK K'
          try simp only [Act.put, List.setIfInBounds_toArray, List.set_cons_zero, List.set_cons_succ]
          refine mix.D_op (k := 15) rfl rfl (by kernel_rfl) (fun K' hK => ?_)
          simp only [List.getElem_toArray, List.getElem_cons_zero, List.getElem_cons_succ]
          go_wp2_with fail
          refine hK.out _ _ (fun h => by simp at h) ?_
          clear hK K'
          refine mix.D_done (by kernel_rfl) ?_ _
          try simp only [Act.put, List.getElem_toArray, List.getElem_cons_zero, List.getElem_cons_succ, List.setIfInBounds_toArray, List.set_cons_zero, List.set_cons_succ]
          go_wp2_with fail
          obtain ⟨q1, q2, q3, q4, q5, q6, q7⟩ := hdw
          unfold set3 at q1 q2 q3 q4 q6 q7
          refine ⟨⟨q1, q2, q3, hg, ⟨ylf, yes, yks, yA, yc, yQ, ym⟩, way ++ [((⟨false, es, ks, A, c, some ⟨bk, off, none⟩, m⟩ : N), belP ks s)], w4.heap.size, q4, q5, q6, by rw [List.length_append, List.length_singleton]; omega, q7, ?_⟩, by simp only [lenOf]; omega⟩
          rcases HR.out with ⟨h1, h2⟩ | ⟨rfl, h2, h3, h4⟩
          · exact .inl ⟨er, h1, rfl, h2⟩
          · refine .inr ⟨rfl, ⟨f', by rw [List.length_append, List.length_singleton]; have := HF.out; omega, by rw [h2, List.map_append, List.length_append, List.length_singleton]; rfl⟩, (by rw [List.length_append, List.length_singleton]; exact h3), ?_⟩
            have hgw : g10 < w4.heap.size := lG4
            exact (h4.agree (set3_agree (fun k hk => by omega) _ _ _)).mono fun k hk => ⟨hk.1, by rw [show (((wb1.setCell ⟨g10, 0, none⟩ (.bool ylf)).setCell ⟨g10, 1, none⟩ (.slice yA yes.length yc)).setCell ⟨g10, 2, none⟩ (.slice yQ yks.length ym)).heap.size = wb1.heap.size by simp]; exact hk.2, by omega⟩

end Go.Proofs.Ytnndohdiiglgmaa.trees
