/- A node's term, in pure words; letheref06's Num, Atom, Key, Row and kidTerm. -/
import Derived.Test.YtanfjnahdnafnaaNdA
import Derived.Test.YtanfjnahdnafnaaMix
import Derived.Test.YtanfjnahdnafnaaQuN
import Derived.Test.YtanfjnahdnafnaaTermB


namespace Go.Proofs.Ytanfjnahdnafnaa.nodes
set_option linter.unusedVariables false
set_option linter.unusedSimpArgs false
open Go.RowKit Go.Proofs.Ytanfjnahdnafnaa.base Go.Proofs.Ytanfjnahdnafnaa.quotas Go.Proofs.Ytanfjnahdnafnaa.vers Go.Proofs.Ytanfjnahdnafnaa.tm Go.Proofs.Ytanfjnahdnafnaa.lies Go.Proofs.Ytanfjnahdnafnaa.copies Go.Proofs.Ytanfjnahdnafnaa.makes

def numT (n : Int) : T := .mk 1 n ⟨#[]⟩ []
def atomT (s : ByteArray) : T := .mk 2 0 s []
def keyT (n : Int) : T := .mk 3 n ⟨#[]⟩ []
def rowT (l : List T) : T := .mk 5 0 ⟨#[]⟩ l
def verT (x : V) : T := rowT [numT x.n, atomT x.v, atomT x.t]
def entT (x : E) : T := rowT (atomT x.s :: x.l.map verT)
def kidT (x : K) : T := rowT [atomT x.s, keyT x.k, numT x.g, numT x.o, numT x.n]
def nodeT (lf : Bool) (es : List E) (ks : List K) : T := if lf = true then rowT (numT 1 :: es.map entT) else rowT (numT 2 :: ks.map kidT)

set_option maxRecDepth 100000 in
theorem refNum_any (n : Int) (w : World) (h : 0 ≤ n ∧ n ≤ 9223372036854775807) :
    Calls Try.prog 73 #[.int .i64 n] w fun e w' => e = .returned (.agg #[.int .i64 1, .int .u64 n, .string ⟨#[]⟩, .slice none 0 0]) ∧ Below w.heap.size w w' := by
  have hw : IntKind.u64.wrap n = n := by rw [IntKind.wrap_u64]; omega
  go_enter Try.func73, Try.ntmps73
  go_wp2_with fail
  refine bodyPost_ret (v := .agg #[.int .i64 1, .int .u64 n, .string ⟨#[]⟩, .slice none 0 0]) (by simp [results, Try.results73, go_sem, hw]) rfl ⟨rfl, ?_⟩
  exact (Below.refl _ _).alloc (Nat.le_refl _) _
set_option maxRecDepth 100000 in
theorem refKey_any (n : Int) (w : World) :
    Calls Try.prog 101 #[.int .u64 n] w fun e w' => e = .returned (.agg #[.int .i64 3, .int .u64 n, .string ⟨#[]⟩, .slice none 0 0]) ∧ Below w.heap.size w w' := by
  go_enter Try.func101, Try.ntmps101
  go_wp2_with fail
  refine bodyPost_ret (v := .agg #[.int .i64 3, .int .u64 n, .string ⟨#[]⟩, .slice none 0 0]) (by simp [results, Try.results101, go_sem]) rfl ⟨rfl, ?_⟩
  exact (Below.refl _ _).alloc (Nat.le_refl _) _
set_option maxRecDepth 100000 in
theorem refAtom_any (s : ByteArray) (w : World) :
    Calls Try.prog 100 #[.string s] w fun e w' => e = .returned (.agg #[.int .i64 2, .int .u64 0, .string s, .slice none 0 0]) ∧ Below w.heap.size w w' := by
  go_enter Try.func100, Try.ntmps100
  go_wp2_with fail
  refine bodyPost_ret (v := .agg #[.int .i64 2, .int .u64 0, .string s, .slice none 0 0]) (by simp [results, Try.results100, go_sem]) rfl ⟨rfl, ?_⟩
  exact (Below.refl _ _).alloc (Nat.le_refl _) _
set_option maxRecDepth 100000 in
theorem refRow_any (A : Option Addr) (n c : Nat) (w : World) :
    Calls Try.prog 75 #[.slice A n c] w fun e w' => e = .returned (.agg #[.int .i64 5, .int .u64 0, .string ⟨#[]⟩, .slice A n c]) ∧ Below w.heap.size w w' := by
  go_enter Try.func75, Try.ntmps75
  go_wp2_with fail
  refine bodyPost_ret (v := .agg #[.int .i64 5, .int .u64 0, .string ⟨#[]⟩, .slice A n c]) (by simp [results, Try.results75, go_sem]) rfl ⟨rfl, ?_⟩
  exact (Below.refl _ _).alloc (Nat.le_refl _) _

/-- the cells of terms without lists -/
def bareL : List T → List Value
  | [] => []
  | t :: l => T.cells t (.slice none 0 0) ++ bareL l
def Bare (t : T) : Prop := t.l = [] ∧ (-9223372036854775808 ≤ t.k ∧ t.k ≤ 9223372036854775807) ∧ (0 ≤ t.n ∧ t.n < 18446744073709551616) ∧ t.s.size ≤ maxLen
theorem liesL_bare (w : World) (B : Nat) : ∀ (l : List T), (∀ t ∈ l, Bare t) → LiesL w B l (bareL l)
  | [], _ => rfl
  | t :: l, h => by
    obtain ⟨h1, h2, h3, h4⟩ := h t (List.mem_cons_self ..)
    obtain ⟨k, n, s, r⟩ := t
    cases (show r = [] from h1)
    exact ⟨_, bareL l, rfl, lies_bare w B k n s h2 h3 h4, liesL_bare w B l (fun t ht => h t (List.mem_cons_of_mem _ ht))⟩
/-- a block of such is a held list -/
theorem held_bare {w : World} {g lo : Nat} {l : List T} (hb : Blk w g 38 (bareL l).toArray) (hlo : lo ≤ g) (hl : ∀ t ∈ l, Bare t) (hn : l.length * 56 ≤ 140737488355328) : Held w lo w.heap.size l (.slice (some ⟨g, 0, none⟩) l.length l.length) := by
  have hg := hb.lt
  refine ⟨_, _, rfl, Nat.le_refl _, hn, fun w2 B2 hB ha => ⟨bareL l, fun j u hj => ⟨g, 0, rfl, by omega, ?_⟩, liesL_bare w2 B2 l hl⟩⟩
  rw [ha ⟨g, 0 + j, none⟩ hlo hg, Nat.zero_add, hb.cell]
  simpa using hj

theorem call_cls {P : Program} {f : FuncId} {args : Array Value} {v : Value} {S : World → Prop} {N : World → World} {n : World} (hS : ∀ w w', S w → Below w.heap.size w w' → S w') (h1 : ∀ n, S (N n)) (h2 : ∀ w', S w' → ∃ n, w' = N n)
    (hc : Calls P f args (N n) fun e w' => e = .returned v ∧ Below (N n).heap.size (N n) w') : Calls P f args (N n) fun e w'' => e = .returned v ∧ ∃ m, w'' = N m :=
  hc.mono fun _ _ ⟨he, hb⟩ => ⟨he, h2 _ (hS _ _ (h1 n) hb)⟩
/-- behind kidTerm's beginning: the kid's box and the answer's -/
def Kx (w : World) (x : K) (wr : World) : Prop :=
  (wr.cell? ⟨w.heap.size, 0, none⟩ = some (.string x.s) ∧ wr.cell? ⟨w.heap.size, 1, none⟩ = some (.int .u64 (x.k : Int)) ∧ wr.cell? ⟨w.heap.size, 2, none⟩ = some (.int .i64 x.g) ∧ wr.cell? ⟨w.heap.size, 3, none⟩ = some (.int .i64 x.o) ∧ wr.cell? ⟨w.heap.size, 4, none⟩ = some (.int .i64 x.n)) ∧
    Blk wr (w.heap.size + 1) 38 #[.int .i64 0, .int .u64 0, .string ⟨#[]⟩, .slice none 0 0] ∧ Below w.heap.size w wr
theorem Kx.new (w : World) (x : K) : Kx w x ((w.alloc (.cells #[.string x.s, .int .u64 (x.k : Int), .int .i64 x.g, .int .i64 x.o, .int .i64 x.n] 57)).alloc (.cells #[.int .i64 0, .int .u64 0, .string ⟨#[]⟩, .slice none 0 0] 38)) := by
  have k1 := (Blk.new w 57 #[.string x.s, .int .u64 (x.k : Int), .int .i64 x.g, .int .i64 x.o, .int .i64 x.n]).alloc (.cells #[.int .i64 0, .int .u64 0, .string ⟨#[]⟩, .slice none 0 0] 38)
  have k2 := Blk.new (w.alloc (.cells #[.string x.s, .int .u64 (x.k : Int), .int .i64 x.g, .int .i64 x.o, .int .i64 x.n] 57)) 38 #[.int .i64 0, .int .u64 0, .string ⟨#[]⟩, .slice none 0 0]
  rw [World.size_alloc] at k2
  exact ⟨⟨k1.cell 0, k1.cell 1, k1.cell 2, k1.cell 3, k1.cell 4⟩, k2, ((Below.refl _ _).alloc (Nat.le_refl _) _).alloc (by simp) _⟩
theorem Kx.next {w wr w' : World} {x : K} (h : Kx w x wr) (hb : Below wr.heap.size wr w') : Kx w x w' := by
  obtain ⟨⟨a, b, c, d, e⟩, k, hw⟩ := h
  have hlt := k.lt
  refine ⟨⟨?_, ?_, ?_, ?_, ?_⟩, k.below hb hlt, hw.trans (hb.mono hw.size)⟩ <;> (rw [hb.cell (by simp; omega)]; assumption)

set_option maxRecDepth 100000 in
set_option maxHeartbeats 1000000 in
theorem refKid_any (x : K) (w : World) (hf : x.fits) (hr : refOk x.g x.o x.n) :
    Calls Try.prog 76 #[.agg #[.string x.s, .int .u64 (x.k : Int), .int .i64 x.g, .int .i64 x.o, .int .i64 x.n]] w fun e w' => ∃ A c, e = .returned (T.val (kidT x) (.slice A (kidT x).l.length c)) ∧ Held w' w.heap.size w'.heap.size (kidT x).l (.slice A (kidT x).l.length c) ∧ Below w.heap.size w w' := by
  obtain ⟨⟨r1, r2⟩, ⟨r3, r4⟩, r5, r6⟩ := hr
  obtain ⟨f1, f2, f3, f4, f5⟩ := hf
  have K0 := Kx.new w x
  have c1 := fun wr => refNum_any x.g wr ⟨r1, by omega⟩
  have c2 := fun wr => refNum_any x.o wr ⟨r3, by omega⟩
  have c3 := fun wr => refNum_any x.n wr ⟨by omega, by omega⟩
  have hbare : ∀ t ∈ [atomT x.s, keyT x.k, numT x.g, numT x.o, numT x.n], Bare t := by
    intro t ht
    simp at ht
    rcases ht with rfl | rfl | rfl | rfl | rfl
    · exact ⟨rfl, by show (-9223372036854775808 : Int) ≤ 2 ∧ (2 : Int) ≤ 9223372036854775807; omega, by show (0 : Int) ≤ 0 ∧ (0 : Int) < 18446744073709551616; omega, f1⟩
    · exact ⟨rfl, by show (-9223372036854775808 : Int) ≤ 3 ∧ (3 : Int) ≤ 9223372036854775807; omega, by show (0 : Int) ≤ (x.k : Int) ∧ (x.k : Int) < 18446744073709551616; omega, Nat.zero_le _⟩
    · exact ⟨rfl, by show (-9223372036854775808 : Int) ≤ 1 ∧ (1 : Int) ≤ 9223372036854775807; omega, by show (0 : Int) ≤ x.g ∧ x.g < 18446744073709551616; omega, Nat.zero_le _⟩
    · exact ⟨rfl, by show (-9223372036854775808 : Int) ≤ 1 ∧ (1 : Int) ≤ 9223372036854775807; omega, by show (0 : Int) ≤ x.o ∧ x.o < 18446744073709551616; omega, Nat.zero_le _⟩
    · exact ⟨rfl, by show (-9223372036854775808 : Int) ≤ 1 ∧ (1 : Int) ≤ 9223372036854775807; omega, by show (0 : Int) ≤ x.n ∧ x.n < 18446744073709551616; omega, Nat.zero_le _⟩
  clear r1 r2 r3 r4 r5 r6 f1 f2 f3 f4 f5
  go_enter Try.func76, Try.ntmps76
  go_wp2_with fail
  obtain ⟨N, hN, hM⟩ := norms _ _ K0
  have hne : Nonempty World := ⟨w⟩
  have q0 := fun n => (hN n).1.1
  have q1 := fun n => (hN n).1.2.1
  have q2 := fun n => (hN n).1.2.2.1
  have q3 := fun n => (hN n).1.2.2.2.1
  have q4 := fun n => (hN n).1.2.2.2.2
  refine mix.region_tail 19 N (by kernel_rfl) (by kernel_rfl) (hM _ (K0.next ((Below.refl _ _).drew))) ?_
  simp only [List.take_succ_cons, List.take_zero, List.drop_succ_cons, List.drop_zero]
  repeat (go_big_quiet_step (first
    | (go_at_call 100; exact call_cls (fun _ _ => Kx.next) hN hM (refAtom_any _ _))
    | (go_at_call 101; exact call_cls (fun _ _ => Kx.next) hN hM (refKey_any _ _))
    | (go_at_call 73; exact call_cls (fun _ _ => Kx.next) hN hM (by first | exact c1 _ | exact c2 _ | exact c3 _))))
  refine wpQuiet_nil ?_
  rintro _ ⟨n, rfl⟩
  have K1 := hN n
  generalize N n = w1 at K1 ⊢
  clear q0 q1 q2 q3 q4 hM hN N n hne c1 c2 c3 K0
  obtain ⟨_, kb, bw⟩ := K1
  have lt1 := kb.lt
  have hnew := Blk.new w1 38 (bareL [atomT x.s, keyT x.k, numT x.g, numT x.o, numT x.n]).toArray
  go_wp2_with (go_at_call 75; refine (refRow_any _ _ _ _).mono ?_; rintro e w2 ⟨rfl, hb2⟩; have kb2 := (kb.alloc (.cells (bareL [atomT x.s, keyT x.k, numT x.g, numT x.o, numT x.n]).toArray 38)).below hb2 (by have := bw.size; simp; omega); have hnew2 := hnew.below hb2 (by simp); have z0 := kb2.cell 0; have z1 := kb2.cell 1; have z2 := kb2.cell 2; have z3 := kb2.cell 3; simp at z0 z1 z2 z3; have f0 := kb2.frozen 0; have f1 := kb2.frozen 1; have f2 := kb2.frozen 2; have f3 := kb2.frozen 3)
  have hH := held_bare (lo := w1.heap.size) (l := [atomT x.s, keyT x.k, numT x.g, numT x.o, numT x.n]) hnew2 (Nat.le_refl _) hbare (by simp)
  have hbs := bw.size
  have hb2' : Below w.heap.size w w2 := (bw.alloc bw.size (.cells (bareL [atomT x.s, keyT x.k, numT x.g, numT x.o, numT x.n]).toArray 38)).trans (hb2.mono (by simp; omega))
  refine bodyPost_ret (v := T.val (kidT x) (.slice (some ⟨w1.heap.size, 0, none⟩) 5 5)) (by simp [results, Try.results76, go_sem, z0, z1, z2, z3, kidT, rowT, T.k, T.n, T.s]) rfl ⟨_, _, rfl, ?_, ?_⟩
  · refine hH.move hbs (by simp) fun p p1 p2 => ?_
    exact four_cell w2 (w.heap.size + 1) 0 _ _ _ _ p (by omega)
  · exact four_below hb2' (by omega) _ _ _ _
end Go.Proofs.Ytanfjnahdnafnaa.nodes
