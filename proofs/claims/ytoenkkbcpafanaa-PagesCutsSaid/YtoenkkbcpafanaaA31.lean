/- Of, Num, Key, Atom; the walk of the law TermMakes. -/
import Derived.Test.YtoenkkbcpafanaaA30
import Derived.Test.YtoenkkbcpafanaaA04
import Derived.Test.YtoenkkbcpafanaaA29
import Derived.Test.YtoenkkbcpafanaaA25
import Derived.Maps.AppendAt
import Derived.Deep.AppendLies
import Derived.Test.YtoenkkbcpafanaaRows
import Derived.Test.YtoenkkbcpafanaaA00
import Derived.Outline
import Derived.Lib.Hide
import Derived.Laws.BitsAllLaws


namespace Go.Proofs.Ytoenkkbcpafanaa.makes
set_option linter.unusedVariables false
set_option linter.unusedSimpArgs false
open Go.RowKit Go.Proofs.Ytoenkkbcpafanaa.base Go.Proofs.Ytoenkkbcpafanaa.tm Go.Proofs.Ytoenkkbcpafanaa.lies Go.Proofs.Ytoenkkbcpafanaa.rights Go.Proofs.Ytoenkkbcpafanaa.likes Go.Proofs.Ytoenkkbcpafanaa.copies

/-- a slice of terms that lies below block B -/
def LiesS (w : World) (B : Nat) (l : List T) (A : Option Addr) (c : Nat) : Prop := ∃ xs, l.length ≤ c ∧ l.length * 56 ≤ 140737488355328 ∧ Rd w B A xs ∧ LiesL w B l xs

set_option maxRecDepth 100000 in
theorem of_any (l : List T) (A : Option Addr) (c B : Nat) (w : World) (h : LiesS w B l A c) (hB : B ≤ w.heap.size) :
    Calls Try.prog 250 #[.slice A l.length c] w fun e w' => ∃ A' c', e = .returned (.agg #[.int .i64 5, .int .u64 0, .string ⟨#[]⟩, .slice A' l.length c']) ∧ Held w' w.heap.size w'.heap.size l (.slice A' l.length c') ∧ Below w.heap.size w w' := by
  obtain ⟨xs, h1, h2, h3, h4⟩ := h
  have hcall := copied_any (sizeL l) l A c xs B (w.alloc (.cells #[.int .i64 0, .int .u64 0, .string ⟨#[]⟩, .slice none 0 0] 273)) (Nat.le_refl _) h1 h2 (h3.alloc hB _) (LiesL.keep (fun p hp => World.cell?_alloc_lt w _ p (by omega)) _ _ h4) (by simp; omega)
  have hbk := Blk.new w 273 #[.int .i64 0, .int .u64 0, .string ⟨#[]⟩, .slice none 0 0]
  go_enter Try.func250, Try.ntmps250
  go_wp2_with (go_at_call 266; refine hcall.mono ?_; rintro e w1 ⟨v, rfl, hh0, hb⟩; have hh := hh0; obtain ⟨A2, c2, rfl, _⟩ := hh0; have hk := hbk.below hb (by simp); have z0 := hk.cell 0; have z1 := hk.cell 1; have z2 := hk.cell 2; have z3 := hk.cell 3; simp at z0 z1 z2 z3; have f0 := hk.frozen 0; have f1 := hk.frozen 1; have f2 := hk.frozen 2; have f3 := hk.frozen 3)
  refine bodyPost_ret (v := .agg #[.int .i64 5, .int .u64 0, .string ⟨#[]⟩, .slice A2 l.length c2]) (by simp [results, Try.results250, go_sem, z0, z1, z2, z3]) rfl ⟨A2, c2, rfl, ?_, ?_⟩
  · refine hh.move (by simp) (by simp) fun p p1 p2 => ?_
    rw [World.size_alloc] at p1
    exact four_cell w1 w.heap.size 0 _ _ _ _ p (by omega)
  · exact four_below ((below_call (Below.refl _ _) hb)) (Nat.le_refl _) _ _ _ _

set_option maxRecDepth 100000 in
theorem num_any (n : Int) (w : World) :
    Calls Try.prog 245 #[.int .u64 n] w fun e w' => e = .returned (.agg #[.int .i64 1, .int .u64 n, .string ⟨#[]⟩, .slice none 0 0]) ∧ Below w.heap.size w w' := by
  go_enter Try.func245, Try.ntmps245
  go_wp2
  refine bodyPost_ret (v := .agg #[.int .i64 1, .int .u64 n, .string ⟨#[]⟩, .slice none 0 0]) (by simp [results, Try.results245, go_sem]) rfl ⟨rfl, ?_⟩
  exact (Below.refl _ _).alloc (Nat.le_refl _) _

set_option maxRecDepth 100000 in
theorem key_any (n : Int) (w : World) :
    Calls Try.prog 254 #[.int .u64 n] w fun e w' => e = .returned (.agg #[.int .i64 3, .int .u64 n, .string ⟨#[]⟩, .slice none 0 0]) ∧ Below w.heap.size w w' := by
  go_enter Try.func254, Try.ntmps254
  go_wp2
  refine bodyPost_ret (v := .agg #[.int .i64 3, .int .u64 n, .string ⟨#[]⟩, .slice none 0 0]) (by simp [results, Try.results254, go_sem]) rfl ⟨rfl, ?_⟩
  exact (Below.refl _ _).alloc (Nat.le_refl _) _

set_option maxRecDepth 100000 in
theorem atom_any (s : ByteArray) (w : World) :
    Calls Try.prog 248 #[.string s] w fun e w' => e = .returned (.agg #[.int .i64 2, .int .u64 0, .string s, .slice none 0 0]) ∧ Below w.heap.size w w' := by
  go_enter Try.func248, Try.ntmps248
  go_wp2
  refine bodyPost_ret (v := .agg #[.int .i64 2, .int .u64 0, .string s, .slice none 0 0]) (by simp [results, Try.results248, go_sem]) rfl ⟨rfl, ?_⟩
  exact (Below.refl _ _).alloc (Nat.le_refl _) _

theorem below_call2 {w w1 w2 : World} (hb1 : Below w.heap.size w w1) {o o' : Obj} (h2 : Below ((w1.alloc o).alloc o').heap.size ((w1.alloc o).alloc o') w2) : Below w.heap.size w w2 :=
  ((hb1.alloc hb1.size o).alloc (by have := hb1.size; simp; omega) o').trans (h2.mono (by have := hb1.size; simp; omega))
/-- a term without a list lies everywhere -/
theorem lies_bare (w : World) (B : Nat) (k n : Int) (s : ByteArray) (h1 : -9223372036854775808 ≤ k ∧ k ≤ 9223372036854775807) (h2 : 0 ≤ n ∧ n < 18446744073709551616) (h3 : s.size ≤ maxLen) : Lies w B (.mk k n s []) (.slice none 0 0) :=
  Lies.mk (t := .mk k n s []) h1 h2 h3 (Nat.le_refl _) (by show 0 * 56 ≤ 140737488355328; omega) (Rd.nil w B none) rfl

end Go.Proofs.Ytoenkkbcpafanaa.makes

/- A node's term, in pure words; letheref06's Num, Atom, Key, Row and kidTerm. -/

namespace Go.Proofs.Ytoenkkbcpafanaa.nodes
set_option linter.unusedVariables false
set_option linter.unusedSimpArgs false
open Go.RowKit Go.Proofs.Ytoenkkbcpafanaa.base Go.Proofs.Ytoenkkbcpafanaa.quotas Go.Proofs.Ytoenkkbcpafanaa.vers Go.Proofs.Ytoenkkbcpafanaa.tm Go.Proofs.Ytoenkkbcpafanaa.lies Go.Proofs.Ytoenkkbcpafanaa.copies Go.Proofs.Ytoenkkbcpafanaa.makes

def numT (n : Int) : T := .mk 1 n ⟨#[]⟩ []
def atomT (s : ByteArray) : T := .mk 2 0 s []
def keyT (n : Int) : T := .mk 3 n ⟨#[]⟩ []
def rowT (l : List T) : T := .mk 5 0 ⟨#[]⟩ l
def verT (x : V) : T := rowT [numT x.n, atomT x.v, atomT x.t]
def entT (x : E) : T := rowT (atomT x.s :: x.l.map verT)
def kidT (x : K) : T := rowT [atomT x.s, keyT x.k, numT x.g, numT x.o, numT x.n]
def nodeT (lf : Bool) (es : List E) (ks : List K) : T := if lf = true then rowT (numT 1 :: es.map entT) else rowT (numT 2 :: ks.map kidT)

/-- the cells of terms without lists -/
def bareL : List T → List Value
  | [] => []
  | t :: l => T.cells t (.slice none 0 0) ++ bareL l
def Bare (t : T) : Prop := t.l = [] ∧ (-9223372036854775808 ≤ t.k ∧ t.k ≤ 9223372036854775807) ∧ (0 ≤ t.n ∧ t.n < 18446744073709551616) ∧ t.s.size ≤ maxLen
theorem liesL_bare (w : World) (B : Nat) : ∀ (l : List T), (∀ t ∈ l, Bare t) → LiesL w B l (bareL l)
  | [], _ => rfl
  | t :: l, h => by
    obtain ⟨h1, h2, h3, h4⟩ := h t (List.mem_cons_self ..)
    obtain ⟨k, n, s, r⟩ := t
    cases (show r = [] from h1)
    exact ⟨_, bareL l, rfl, lies_bare w B k n s h2 h3 h4, liesL_bare w B l (fun t ht => h t (List.mem_cons_of_mem _ ht))⟩
/-- a block of such is a held list -/
theorem held_bare {w : World} {g lo : Nat} {l : List T} (hb : Blk w g 273 (bareL l).toArray) (hlo : lo ≤ g) (hl : ∀ t ∈ l, Bare t) (hn : l.length * 56 ≤ 140737488355328) : Held w lo w.heap.size l (.slice (some ⟨g, 0, none⟩) l.length l.length) := by
  have hg := hb.lt
  refine ⟨_, _, rfl, Nat.le_refl _, hn, fun w2 B2 hB ha => ⟨bareL l, fun j u hj => ⟨g, 0, rfl, by omega, ?_⟩, liesL_bare w2 B2 l hl⟩⟩
  rw [ha ⟨g, 0 + j, none⟩ hlo hg, Nat.zero_add, hb.cell]
  simpa using hj

theorem call_cls {P : Program} {f : FuncId} {args : Array Value} {v : Value} {S : World → Prop} {N : World → World} {n : World} (hS : ∀ w w', S w → Below w.heap.size w w' → S w') (h1 : ∀ n, S (N n)) (h2 : ∀ w', S w' → ∃ n, w' = N n)
    (hc : Calls P f args (N n) fun e w' => e = .returned v ∧ Below (N n).heap.size (N n) w') : Calls P f args (N n) fun e w'' => e = .returned v ∧ ∃ m, w'' = N m :=
  hc.mono fun _ _ ⟨he, hb⟩ => ⟨he, h2 _ (hS _ _ (h1 n) hb)⟩
/-- behind kidTerm's beginning: the kid's box and the answer's -/
def Kx (w : World) (x : K) (wr : World) : Prop :=
  (wr.cell? ⟨w.heap.size, 0, none⟩ = some (.string x.s) ∧ wr.cell? ⟨w.heap.size, 1, none⟩ = some (.int .u64 (x.k : Int)) ∧ wr.cell? ⟨w.heap.size, 2, none⟩ = some (.int .i64 x.g) ∧ wr.cell? ⟨w.heap.size, 3, none⟩ = some (.int .i64 x.o) ∧ wr.cell? ⟨w.heap.size, 4, none⟩ = some (.int .i64 x.n)) ∧
    Blk wr (w.heap.size + 1) 273 #[.int .i64 0, .int .u64 0, .string ⟨#[]⟩, .slice none 0 0] ∧ Below w.heap.size w wr
theorem Kx.new (w : World) (x : K) : Kx w x ((w.alloc (.cells #[.string x.s, .int .u64 (x.k : Int), .int .i64 x.g, .int .i64 x.o, .int .i64 x.n] 162)).alloc (.cells #[.int .i64 0, .int .u64 0, .string ⟨#[]⟩, .slice none 0 0] 273)) := by
  have k1 := (Blk.new w 162 #[.string x.s, .int .u64 (x.k : Int), .int .i64 x.g, .int .i64 x.o, .int .i64 x.n]).alloc (.cells #[.int .i64 0, .int .u64 0, .string ⟨#[]⟩, .slice none 0 0] 273)
  have k2 := Blk.new (w.alloc (.cells #[.string x.s, .int .u64 (x.k : Int), .int .i64 x.g, .int .i64 x.o, .int .i64 x.n] 162)) 273 #[.int .i64 0, .int .u64 0, .string ⟨#[]⟩, .slice none 0 0]
  rw [World.size_alloc] at k2
  exact ⟨⟨k1.cell 0, k1.cell 1, k1.cell 2, k1.cell 3, k1.cell 4⟩, k2, ((Below.refl _ _).alloc (Nat.le_refl _) _).alloc (by simp) _⟩
theorem Kx.next {w wr w' : World} {x : K} (h : Kx w x wr) (hb : Below wr.heap.size wr w') : Kx w x w' := by
  obtain ⟨⟨a, b, c, d, e⟩, k, hw⟩ := h
  have hlt := k.lt
  refine ⟨⟨?_, ?_, ?_, ?_, ?_⟩, k.below hb hlt, hw.trans (hb.mono hw.size)⟩ <;> (rw [hb.cell (by simp; omega)]; assumption)

end Go.Proofs.Ytoenkkbcpafanaa.nodes

/- A list of terms that a call builds by append: what it holds, what an append leaves. -/

namespace Go.Proofs.Ytoenkkbcpafanaa.built
set_option linter.unusedVariables false
set_option linter.unusedSimpArgs false
open Go.RowKit Go.Proofs.Ytoenkkbcpafanaa.base Go.Proofs.Ytoenkkbcpafanaa.tm Go.Proofs.Ytoenkkbcpafanaa.lies Go.Proofs.Ytoenkkbcpafanaa.rights Go.Proofs.Ytoenkkbcpafanaa.copies

/-- the cells xs are the terms l, as long as the blocks of Q are left alone -/
def HeldQ (w : World) (Q : Nat → Prop) (l : List T) (xs : List Value) : Prop :=
  ∀ w2 B2, w.heap.size ≤ B2 → (∀ p : Addr, Q p.block → w2.cell? p = w.cell? p) → LiesL w2 B2 l xs
/-- the slice v, built by append in blocks from lo on, is the terms l -/
def Built (lo : Nat) (w : World) (l : List T) (v : Value) : Prop :=
  ∃ xs, w.ownsRow lo 273 4 v l.length xs ∧ HeldQ w (fun k => lo ≤ k ∧ k < w.heap.size ∧ some k ≠ v.ownBlock) l xs

theorem Built.nil (lo : Nat) (w : World) : Built lo w [] (.slice none 0 0) := ⟨[], ⟨rfl, .inl ⟨rfl, rfl⟩⟩, fun _ _ _ _ => rfl⟩
theorem Built.own {lo : Nat} {w : World} {l : List T} {v : Value} (h : Built lo w l v) : ∀ k, v.ownBlock = some k → lo ≤ k ∧ k < w.heap.size := by
  obtain ⟨xs, h1, _⟩ := h
  exact h1.lt
/-- what turns blocks below lo alone, and makes new ones -/
theorem Built.kept {lo : Nat} {w w' : World} {l : List T} {v : Value} (h : Built lo w l v) {row : Option Nat} (hg : w.grownBy w' row) (hr : ∀ g, row = some g → g < lo) : Built lo w' l v := by
  have hown := h.own
  obtain ⟨xs, h1, h2⟩ := h
  refine ⟨xs, h1.kept hg ?_, fun w2 B2 hB ha => h2 w2 B2 (Nat.le_trans hg.size hB) fun p hp => ?_⟩
  · cases hv : v.ownBlock with
    | none => exact .inl rfl
    | some k =>
      refine .inr fun e => ?_
      have := hr k e.symm
      have := (hown k hv).1
      omega
  · rw [ha p ⟨hp.1, Nat.lt_of_lt_of_le hp.2.1 hg.size, hp.2.2⟩]
    exact World.cell?_of_block (hg.block p.block hp.2.1 fun e => by have := hr p.block e.symm; omega)
theorem Built.below {lo : Nat} {w w' : World} {l : List T} {v : Value} (h : Built lo w l v) (hb : Below w.heap.size w w') : Built lo w' l v :=
  h.kept (row := none) (grown_below (World.grownBy.refl w none) hb) (fun g e => by cases e)
theorem Built.form {lo : Nat} {w : World} {l : List T} {v : Value} (h : Built lo w l v) : ∃ A c, v = .slice A l.length c ∧ l.length ≤ c := by
  obtain ⟨xs, h1, _⟩ := h
  rcases h1.2 with ⟨rfl, hn⟩ | ⟨g, cap, cur, rfl, _, _, hc, _⟩
  · exact ⟨none, 0, by rw [hn], by omega⟩
  · exact ⟨_, cap, rfl, hc⟩
theorem Built.held {lo : Nat} {w : World} {l : List T} {v : Value} (h : Built lo w l v) (hl : l.length * 56 ≤ 140737488355328) : Held w lo w.heap.size l v := by
  obtain ⟨xs, h1, h2⟩ := h
  rcases h1.2 with ⟨rfl, hn⟩ | ⟨g, cap, cur, rfl, hg, hb, hc, _, hs, ht⟩
  · obtain rfl := List.eq_nil_of_length_eq_zero hn
    exact Held.nil _ _ _
  · have hlt : g < w.heap.size := Blk.lt (t := 273) (cs := cur) hb
    refine ⟨_, cap, rfl, hc, hl, fun w2 B2 hB ha => ⟨xs, fun j u hj => ⟨g, 0, rfl, by omega, ?_⟩, h2 w2 B2 hB fun p hp => ha p hp.1 hp.2.1⟩⟩
    rw [ha ⟨g, 0 + j, none⟩ hg hlt, Nat.zero_add, Blk.cell (t := 273) (cs := cur) hb]
    rw [← ht, List.getElem?_take] at hj
    split at hj
    · simpa using hj
    · cases hj

/-- append of one term, whose own list lies in blocks from lo' on -/
theorem wpList_append_term {ops : Array Oper} {rest : List Oper} {o : Oper} {a : Act} {Q : Exit → Act → World → Prop} (hgd : o.guard = none) (s x : Operand)
    (ho : o.op = .call { callee := .builtin .append, args := #[s, x], argTypes := #[271, 271] })
    {lo lo' hi : Nat} {w : World} {v : Value} {l : List T} {t : T} {vt : Value} {cs : Array Value} (hcs : cs.toList = T.cells t vt) (hB : Built lo w l v) (hs : a.eval s = v) (hlo : lo ≤ w.heap.size)
    (ht : Held w lo' hi t.l vt) (hhi : hi ≤ w.heap.size) (hlo' : lo ≤ lo') (hown : ∀ k, v.ownBlock = some k → k < lo')
    (k1 : -9223372036854775808 ≤ t.k ∧ t.k ≤ 9223372036854775807) (k2 : 0 ≤ t.n ∧ t.n < 18446744073709551616) (k3 : t.s.size ≤ maxLen)
    {n : Nat} (hx : a.eval x = .slice (some ⟨n, 0, none⟩) 1 1) (hnz : n = w.heap.size) (hlen : (l.length + 1) * 56 ≤ 140737488355328)
    (h : ∀ v' w', Built lo w' (l ++ [t]) v' → Below lo w w' → w.heap.size ≤ w'.heap.size → (∀ g T cs, T ≠ 273 → Blk w g T cs → Blk w' g T cs) → wpList Try.prog ops Q rest (a.put o.dst v') w') : wpList Try.prog ops Q (o :: rest) a (w.alloc (.cells cs 273)) := by
  subst hnz
  obtain ⟨i0, hi0, hz0, hz1, hz2⟩ := info_parts info30
  have hBa := hB.below ((Below.refl _ _).alloc (Nat.le_refl _) (.cells cs 273))
  obtain ⟨xs, h1, h2⟩ := hBa
  have hnews := World.news_of_block (cs := cs) (t := 273) (fr := (0, 0)) (heap_alloc_new w (.cells cs 273))
  rw [hcs] at hnews
  refine wpList_append_own_at _ hgd s x 271 ho lo 273 i0 _ 4 56 Try.underlying271 hi0 hz0 hz1 hz2 rfl (by decide) v l.length xs hs h1 ⟨w.heap.size, 0, none⟩ 1 1 (T.cells t vt) hx rfl hnews ?_ (by unfold maxLen; omega) hlen (by simp; omega) ?_
  · obtain ⟨A, c, rfl, _⟩ := ht
    intro u hu
    simp [T.cells] at hu
    rcases hu with rfl | rfl | rfl | rfl <;> rfl
  · intro v' w' ho' hg _ hat
    have hz := hg.size
    simp only [World.size_alloc] at hz
    have hown0 : ∀ k, v.ownBlock = some k → lo ≤ k ∧ k < w.heap.size := hB.own
    have hkeep : ∀ p : Addr, p.block < w.heap.size → some p.block ≠ v.ownBlock → w'.cell? p = w.cell? p := fun p hp hne => by
      rw [World.cell?_of_block (hg.block p.block (by simp; omega) hne), World.cell?_alloc_lt _ _ _ hp]
    refine h v' w' ⟨xs ++ T.cells t vt, ?_, ?_⟩ ?_ (by omega) ?_
    · rw [List.length_append]; exact ho'
    · have hQ : ∀ k, lo ≤ k → k < w.heap.size → some k ≠ v.ownBlock → some k ≠ v'.ownBlock := fun k _ hk2 hk3 => by
        rcases hat with e | e
        · rw [e]; exact hk3
        · rw [e]; simp; omega
      intro w2 B2 hB2 ha
      have hl := h2 w2 B2 (by simp; omega) fun p hp => ?_
      · obtain ⟨A, c, e, hl1, hl2, hh⟩ := ht
        obtain ⟨ys, hr, hL⟩ := hh w2 B2 (by omega) fun p p1 p2 => by
          have hne : some p.block ≠ v.ownBlock := fun e => by have := hown p.block e.symm; omega
          rw [ha p ⟨by omega, by omega, hQ p.block (by omega) (by omega) hne⟩]
          exact hkeep p (by omega) hne
        subst e
        exact hl.snoc (Lies.mk k1 k2 k3 hl1 hl2 hr hL)
      · obtain ⟨q1, q2, q3⟩ := hp
        simp only [World.size_alloc] at q2
        rcases Nat.lt_or_ge p.block w.heap.size with hlt | hge
        · rw [ha p ⟨q1, by omega, hQ _ q1 hlt q3⟩, World.cell?_of_block (hg.block p.block (by simp; omega) q3)]
        · have hpb : p.block = w.heap.size := by omega
          have q4 : some p.block ≠ v'.ownBlock := by
            rcases hat with e | e
            · rw [e]; exact q3
            · rw [e]; simp; omega
          rw [ha p ⟨q1, by omega, q4⟩, World.cell?_of_block (hg.block p.block (by simp; omega) q3)]
    · refine ((Below.refl lo w).alloc hlo _).grown hg (by simp; omega) fun k hk => (hown0 k hk).1
    · intro g T cs' hT hb
      have hb1 := Blk.alloc hb (.cells cs 273)
      refine (hg.block g hb1.lt fun e => ?_).trans hb1
      rcases h1.2 with ⟨rfl, _⟩ | ⟨g', cap, cur, rfl, _, hh, _⟩
      · simp [Value.ownBlock] at e
      · simp [Value.ownBlock] at e
        subst e
        unfold Blk at hb1
        rw [hh] at hb1
        injection hb1 with hb1
        injection hb1 with _ hb1
        exact hT hb1.symm
end Go.Proofs.Ytoenkkbcpafanaa.built

/- letheref06's entryTerm. -/

namespace Go.Proofs.Ytoenkkbcpafanaa.nodes
set_option linter.unusedVariables false
set_option linter.unusedSimpArgs false
open Go.RowKit Go.Proofs.Ytoenkkbcpafanaa.base Go.Proofs.Ytoenkkbcpafanaa.quotas Go.Proofs.Ytoenkkbcpafanaa.vers Go.Proofs.Ytoenkkbcpafanaa.tm Go.Proofs.Ytoenkkbcpafanaa.lies Go.Proofs.Ytoenkkbcpafanaa.copies Go.Proofs.Ytoenkkbcpafanaa.makes Go.Proofs.Ytoenkkbcpafanaa.built

/-- a list of one bare term that a literal makes -/
theorem built_bare {w : World} {lo : Nat} {t : T} (h : Bare t) (hlo : lo ≤ w.heap.size) : Built lo (w.alloc (.cells (bareL [t]).toArray 273)) [t] (.slice (some ⟨w.heap.size, 0, none⟩) 1 1) := by
  refine ⟨bareL [t], ?_, fun w2 B2 _ _ => liesL_bare w2 B2 [t] (fun x hx => by rw [List.mem_singleton.1 hx]; exact h)⟩
  have := World.ownsRow_lit (base := lo) (e := 273) (size := 4) w (bareL [t]).toArray 1 hlo (by decide) (by simp [bareL, T.cells])
  simpa using this
theorem bare_num {n : Int} (h : 0 ≤ n ∧ n ≤ 9223372036854775807) : Bare (numT n) := ⟨rfl, by show (-9223372036854775808 : Int) ≤ 1 ∧ (1 : Int) ≤ 9223372036854775807; omega, by show (0 : Int) ≤ n ∧ n < 18446744073709551616; omega, Nat.zero_le _⟩
theorem bare_atom {s : ByteArray} (h : s.size ≤ maxLen) : Bare (atomT s) := ⟨rfl, by show (-9223372036854775808 : Int) ≤ 2 ∧ (2 : Int) ≤ 9223372036854775807; omega, by show (0 : Int) ≤ 0 ∧ (0 : Int) < 18446744073709551616; omega, h⟩
/-- behind entryTerm's beginning: the secret's box and the answer's -/
def Ex (w : World) (s : ByteArray) (u : Value) (wr : World) : Prop :=
  (wr.cell? ⟨w.heap.size, 0, none⟩ = some (.string s) ∧ wr.cell? ⟨w.heap.size, 1, none⟩ = some u) ∧ Blk wr (w.heap.size + 1) 273 #[.int .i64 0, .int .u64 0, .string ⟨#[]⟩, .slice none 0 0] ∧ Below w.heap.size w wr
theorem Ex.new (w : World) (s : ByteArray) (u : Value) : Ex w s u ((w.alloc (.cells #[.string s, u] 47)).alloc (.cells #[.int .i64 0, .int .u64 0, .string ⟨#[]⟩, .slice none 0 0] 273)) := by
  have k1 := (Blk.new w 47 #[.string s, u]).alloc (.cells #[.int .i64 0, .int .u64 0, .string ⟨#[]⟩, .slice none 0 0] 273)
  have k2 := Blk.new (w.alloc (.cells #[.string s, u] 47)) 273 #[.int .i64 0, .int .u64 0, .string ⟨#[]⟩, .slice none 0 0]
  rw [World.size_alloc] at k2
  exact ⟨⟨k1.cell 0, k1.cell 1⟩, k2, ((Below.refl _ _).alloc (Nat.le_refl _) _).alloc (by simp) _⟩
theorem Ex.next {w wr w' : World} {s : ByteArray} {u : Value} (h : Ex w s u wr) {B : Nat} (hB : w.heap.size + 2 ≤ B) (hb : Below B wr w') : Ex w s u w' := by
  obtain ⟨⟨a, b⟩, k, hw⟩ := h
  refine ⟨⟨?_, ?_⟩, k.below hb (by omega), hw.trans (hb.mono (by omega))⟩ <;> (rw [hb.cell (by simp; omega)]; assumption)
/-- a version's box of the call's own, and what was there -/
def Vx (w0 : World) (g : Nat) (x : V) (wr : World) : Prop := (wr.cell? ⟨g, 0, none⟩ = some (.int .i64 x.n) ∧ wr.cell? ⟨g, 1, none⟩ = some (.string x.v) ∧ wr.cell? ⟨g, 2, none⟩ = some (.string x.t)) ∧ g < wr.heap.size ∧ Below w0.heap.size w0 wr
theorem Vx.new (w : World) (x : V) : Vx w w.heap.size x (w.alloc (.cells #[.int .i64 x.n, .string x.v, .string x.t] 180)) := by
  have k := Blk.new w 180 #[.int .i64 x.n, .string x.v, .string x.t]
  exact ⟨⟨k.cell 0, k.cell 1, k.cell 2⟩, by simp, (Below.refl _ _).alloc (Nat.le_refl _) _⟩
theorem Vx.next {w0 wr w' : World} {g : Nat} {x : V} (h : Vx w0 g x wr) (hb : Below wr.heap.size wr w') : Vx w0 g x w' := by
  obtain ⟨⟨a, b, c⟩, hg, hw⟩ := h
  have hs := hb.size
  refine ⟨⟨?_, ?_, ?_⟩, by omega, hw.trans (hb.mono hw.size)⟩ <;> (rw [hb.cell (by simpa using hg)]; assumption)

theorem held_ver {w : World} {g : Nat} {x : V} (hb : Blk w g 273 #[.int .i64 1, .int .u64 x.n, .string ⟨#[]⟩, .slice none 0 0, .int .i64 2, .int .u64 0, .string x.v, .slice none 0 0, .int .i64 2, .int .u64 0, .string x.t, .slice none 0 0]) (hn : 0 ≤ x.n) (hf : x.fits) : Held w g w.heap.size (verT x).l (.slice (some ⟨g, 0, none⟩) 3 3) := by
  refine held_bare (l := [numT x.n, atomT x.v, atomT x.t]) hb (Nat.le_refl _) ?_ (by simp)
  intro t ht
  simp at ht
  rcases ht with rfl | rfl | rfl
  · exact bare_num ⟨hn, hf.1.2⟩
  · exact bare_atom hf.2.1
  · exact bare_atom hf.2.2
theorem le56 (s : ByteArray) (l : List V) {j : Nat} (hlt : j < l.length) (hl : (l.length + 2) * 56 ≤ 140737488355328) : ((atomT s :: (l.take j).map verT).length + 1) * 56 ≤ 140737488355328 := by
  have e : (atomT s :: (l.take j).map verT).length = j + 1 := by
    rw [List.length_cons, List.length_map, List.length_take]
    omega
  rw [e]
  exact Nat.le_trans (Nat.mul_le_mul_right 56 (show j + 1 + 1 ≤ l.length + 2 by omega)) hl
def EHead6 (w : World) (s : ByteArray) (l : List V) (u : Value) (v i : Value) (wr : World) : Prop :=
  ∃ j : Nat, j ≤ l.length ∧ i = .int .i64 j ∧ Built (w.heap.size + 2) wr (atomT s :: (l.take j).map verT) v ∧ Ex w s u wr ∧ w.heap.size + 2 ≤ wr.heap.size

end Go.Proofs.Ytoenkkbcpafanaa.nodes

/- letheref06's Of: the term of a node that may be. -/

namespace Go.Proofs.Ytoenkkbcpafanaa.nodes
set_option linter.unusedVariables false
set_option linter.unusedSimpArgs false
open Go.RowKit Go.Proofs.Ytoenkkbcpafanaa.base Go.Proofs.Ytoenkkbcpafanaa.quotas Go.Proofs.Ytoenkkbcpafanaa.vers Go.Proofs.Ytoenkkbcpafanaa.tm Go.Proofs.Ytoenkkbcpafanaa.lies Go.Proofs.Ytoenkkbcpafanaa.copies Go.Proofs.Ytoenkkbcpafanaa.makes Go.Proofs.Ytoenkkbcpafanaa.built

/-- behind Of's beginning: the node's box and the answer's -/
def Ox (w : World) (lf : Bool) (u u' : Value) (wr : World) : Prop :=
  (wr.cell? ⟨w.heap.size, 0, none⟩ = some (.bool lf) ∧ wr.cell? ⟨w.heap.size, 1, none⟩ = some u ∧ wr.cell? ⟨w.heap.size, 2, none⟩ = some u') ∧ Blk wr (w.heap.size + 1) 273 #[.int .i64 0, .int .u64 0, .string ⟨#[]⟩, .slice none 0 0] ∧ Below w.heap.size w wr
theorem Ox.new (w : World) (lf : Bool) (u u' : Value) : Ox w lf u u' ((w.alloc (.cells #[.bool lf, u, u'] 87)).alloc (.cells #[.int .i64 0, .int .u64 0, .string ⟨#[]⟩, .slice none 0 0] 273)) := by
  have k1 := (Blk.new w 87 #[.bool lf, u, u']).alloc (.cells #[.int .i64 0, .int .u64 0, .string ⟨#[]⟩, .slice none 0 0] 273)
  have k2 := Blk.new (w.alloc (.cells #[.bool lf, u, u'] 87)) 273 #[.int .i64 0, .int .u64 0, .string ⟨#[]⟩, .slice none 0 0]
  rw [World.size_alloc] at k2
  exact ⟨⟨k1.cell 0, k1.cell 1, k1.cell 2⟩, k2, ((Below.refl _ _).alloc (Nat.le_refl _) _).alloc (by simp) _⟩
theorem Ox.next {w wr w' : World} {lf : Bool} {u u' : Value} (h : Ox w lf u u' wr) {B : Nat} (hB : w.heap.size + 2 ≤ B) (hb : Below B wr w') : Ox w lf u u' w' := by
  obtain ⟨⟨a, b, c⟩, k, hw⟩ := h
  refine ⟨⟨?_, ?_, ?_⟩, k.below hb (by omega), hw.trans (hb.mono (by omega))⟩ <;> (rw [hb.cell (by simp; omega)]; assumption)
theorem len5 {n : Nat} (h : n ≤ 5) : (n + 1) * 56 ≤ 140737488355328 := Nat.le_trans (Nat.mul_le_mul_right 56 (show n + 1 ≤ 6 by omega)) (by decide)
/-- how an answered term lies -/
def TAns (w : World) (t : T) (e : Ending) (w' : World) : Prop := ∃ A c, e = .returned (T.val t (.slice A t.l.length c)) ∧ Held w' w.heap.size w'.heap.size t.l (.slice A t.l.length c) ∧ Below w.heap.size w w'

end Go.Proofs.Ytoenkkbcpafanaa.nodes

/- Numbers in sevens: what PutNum and GetNum do, the program's and the document's own. -/

namespace Go.Proofs.Ytoenkkbcpafanaa.sevens
set_option linter.unusedVariables false
set_option linter.unusedSimpArgs false
open Go.RowKit Go.Proofs.Ytoenkkbcpafanaa.base Go.Proofs.Ytoenkkbcpafanaa.tm

def numVal : Num → Value
  | .bad e => .tuple #[.int .u64 0, .int .i64 0, .int .i64 e]
  | .ok n k => .tuple #[.int .u64 n, .int .i64 k, .int .i64 0]

theorem drop_cons (s : ByteArray) (k : Nat) (h : k < s.size) : s.data.toList.drop k = s[k] :: s.data.toList.drop (k + 1) := by
  rw [List.drop_eq_getElem_cons (by simpa using h)]; rfl

theorem pow7 (k : Nat) : (2 : Int) ^ (7 * k) = ((128 ^ k : Nat) : Int) := by
  rw [Int.pow_mul]; simp
theorem join_val (acc b k : Nat) (hacc : acc < 128 ^ k) (hk : k ≤ 9) (hb : b < 256) (h9 : k = 9 → b ≤ 1) :
    bits BinOp.or IntKind.u64 (acc : Int) (IntKind.u64.wrap (IntKind.u64.wrap (bits BinOp.andNot IntKind.u8 (b : Int) 128) * 2 ^ (7 * k))) = ((acc + b % 128 * 128 ^ k : Nat) : Int) := by
  have h1 : bits BinOp.andNot IntKind.u8 (b : Int) 128 = ((b % 128 : Nat) : Int) := by
    have := u8_andNot_nat b 128 hb (by omega)
    rw [show ((128 : Int)) = ((128 : Nat) : Int) from rfl, this, nat_mask7]
  have hp : 0 < 128 ^ k := Nat.pow_pos (by omega)
  have hlt : acc + b % 128 * 128 ^ k < 18446744073709551616 := by
    by_cases h : k = 9
    · have := h9 h
      subst h
      rw [pow9] at hacc ⊢
      omega
    · have h8 : 128 ^ k ≤ 128 ^ 8 := Nat.pow_le_pow_right (by omega) (by omega)
      have : b % 128 * 128 ^ k ≤ 127 * 128 ^ k := Nat.mul_le_mul_right _ (by omega)
      have h88 : 128 ^ 8 = 72057594037927936 := by decide
      omega
  rw [h1, pow7, IntKind.wrap_u64, IntKind.wrap_u64]
  have e1 : ((b % 128 : Nat) : Int) % 18446744073709551616 = ((b % 128 : Nat) : Int) := by omega
  rw [e1, ← Int.natCast_mul]
  have e2 : ((b % 128 * 128 ^ k : Nat) : Int) % 18446744073709551616 = ((b % 128 * 128 ^ k : Nat) : Int) := by omega
  rw [e2, u64_or_nat _ _ (by omega) (by omega), Nat.or_comm, nat_join (7 * k) _ _ ?_ ?_, Nat.add_comm]
  · rw [Nat.pow_mul]; exact Nat.mul_mod_left _ _
  · rw [Nat.pow_mul]; exact hacc

theorem three (a b c a' b' c' : Value) (h : a = a') (h' : b = b') (h'' : c = c') : Ending.returned (.tuple #[a, b, c]) = .returned (.tuple #[a', b', c']) := by rw [h, h', h'']

theorem num {k : IntKind} {a b : Int} (h : a = b) : Value.int k a = .int k b := by rw [h]
theorem p63 : (9223372036854775808 : Int) = 2 ^ (7 * 9) := by decide

/-- what the loop's head knows -/
def Head (s : ByteArray) (n i : Value) : Prop :=
  ∃ k acc : Nat, k ≤ s.size ∧ k ≤ 9 ∧ acc < 128 ^ k ∧ n = .int .u64 acc ∧ i = .int .i64 k ∧ getL s.data.toList = getFrom k acc (s.data.toList.drop k)

theorem head_next {s : ByteArray} {k acc : Nat} (h : k < s.size) (hk : k ≤ 9) (hacc : acc < 128 ^ k) (hg : getL s.data.toList = getFrom k acc (s.data.toList.drop k)) (h9 : ¬ k = 9) (h128 : 128 ≤ s[k].toNat) :
    Head s (.int .u64 ((acc + s[k].toNat % 128 * 128 ^ k : Nat) : Int)) (.int .i64 ((k : Int) + 1)) := by
  refine ⟨k + 1, _, h, by omega, ?_, rfl, by simp, ?_⟩
  · have : s[k].toNat % 128 * 128 ^ k ≤ 127 * 128 ^ k := Nat.mul_le_mul_right _ (by omega)
    rw [Nat.pow_succ]; omega
  · rw [hg, drop_cons s k h, getFrom, if_neg (by omega), if_pos h128]
theorem head_bad9 {s : ByteArray} {k acc : Nat} (h : k < s.size) (hg : getL s.data.toList = getFrom k acc (s.data.toList.drop k)) (h9 : k = 9) (h1 : 1 < s[k].toNat) : getL s.data.toList = .bad 21 := by
  rw [hg, drop_cons s k h, getFrom, if_pos ⟨h9, h1⟩]
theorem head_bad0 {s : ByteArray} {k acc : Nat} (h : k < s.size) (hg : getL s.data.toList = getFrom k acc (s.data.toList.drop k)) (h0 : s[k].toNat = 0) (hk : 0 < k) : getL s.data.toList = .bad 21 := by
  rw [hg, drop_cons s k h, getFrom, if_neg (by omega), if_neg (by omega), if_pos ⟨h0, hk⟩]
theorem head_ok {s : ByteArray} {k acc : Nat} (h : k < s.size) (hg : getL s.data.toList = getFrom k acc (s.data.toList.drop k)) (h9 : k = 9 → s[k].toNat ≤ 1) (h0 : ¬ (s[k].toNat = 0 ∧ 0 < k)) (hlt : s[k].toNat < 128) :
    getL s.data.toList = .ok (acc + s[k].toNat % 128 * 128 ^ k) (k + 1) := by
  rw [hg, drop_cons s k h, getFrom, if_neg (by intro ⟨a, b⟩; have := h9 a; omega), if_neg (by omega), if_neg h0, Nat.mod_eq_of_lt hlt]
theorem head_short {s : ByteArray} {k acc : Nat} (h : ¬ k < s.size) (hg : getL s.data.toList = getFrom k acc (s.data.toList.drop k)) : getL s.data.toList = .bad 20 := by
  rw [hg, List.drop_of_length_le (by simp; omega), getFrom]

set_option maxRecDepth 100000 in
set_option maxHeartbeats 400000 in
theorem getNum_any (s : ByteArray) (w : World) (hs : s.size ≤ maxLen) :
    Calls Try.prog 326 #[.string s] w fun e w' => e = .returned (numVal (getL s.data.toList)) ∧ w = w' := by
  unfold maxLen at hs
  go_enter Try.func326, Try.ntmps326
  go_wp2
  go_loop [5, 10] (fun n i => Head s n i) (fun _ i => s.size - (intOf i).toNat)
  case atStart => exact ⟨0, 0, Nat.zero_le _, by omega, by simp, rfl, rfl, rfl⟩
  case round =>
    obtain ⟨k, acc, hk, hk9, hacc, rfl, rfl, hg⟩ := hrel
    have HG := Lib.hid hg
    clear hg
    by_cases hlt : k < s.size
    · have hb := byte_lt s[k]
      go_wp2_with fail
      · go_ret3
        exact ⟨by rw [head_bad9 hlt HG.out (by omega) (by omega)]; rfl, rfl⟩
      · go_ret3
        exact ⟨by rw [head_bad0 hlt HG.out (by omega) (by omega)]; rfl, rfl⟩
      · go_ret3
        obtain rfl : k = 9 := by omega
        exact ⟨by rw [head_ok hlt HG.out (by omega) (by omega) (by omega)]; exact three _ _ _ _ _ _ (num (by rw [p63]; exact join_val acc _ 9 hacc hk9 hb (by omega))) rfl rfl, rfl⟩
      · rw [join_val acc _ k hacc hk9 hb (by omega)]
        exact ⟨head_next hlt hk9 hacc HG.out (by omega) (by omega), by simp [intOf]; omega⟩
      · go_ret3
        exact ⟨by rw [head_bad0 hlt HG.out (by omega) (by omega)]; rfl, rfl⟩
      · go_ret3
        have h0 : s[k].toNat = 0 := by assumption
        exact ⟨by rw [head_ok hlt HG.out (by omega) (by omega) (by omega)]; rw [h0]; exact three _ _ _ _ _ _ (num (join_val acc 0 k hacc hk9 (by omega) (by omega))) rfl rfl, rfl⟩
      · go_ret3
        exact ⟨by rw [head_ok hlt HG.out (by omega) (by omega) (by omega)]; exact three _ _ _ _ _ _ (num (join_val acc _ k hacc hk9 hb (by omega))) rfl rfl, rfl⟩
    · go_wp2
      go_ret3
      exact ⟨by rw [head_short hlt HG.out]; rfl, rfl⟩
end Go.Proofs.Ytoenkkbcpafanaa.sevens
