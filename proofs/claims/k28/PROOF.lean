import PyProof.Rows.All
import Wide.All
import OpenK.AllK
import Wide.FinOn
import HandS.ForMost
import HandS.Walk
import HandS.IsInst
import HandS.WideBits
import HandS.Wide
import HandS.Defaults
import HandS.Flow
import HandS.More
import HandS.DictComp
import HandS.SetBool
import HandS.SetTxt0
import HandS.Set
import KE.KDictWalk
import KE.KDictSum
import KE.KSortTupG
import HandS.Head0
import HandS.Head1
import HandS.Head2
import HandS.HeadEnd
import HandS.HeadHook1
import HandS.HeadHook2
import HandS.Nested
import HandS.ExcInit
import HandS.ExcField
import HandS.ExcOwn
import HandS.WordsExc
import HandS.FStr
import KE.KExcSuper
import KE.KExcIs
import HandS.ExcIs
import HandS.Style
import HandS.DictTup
import HandS.DeepEq
import HandS.DictEq
import HandS.OwnEq
import HandS.Codes
import HandS.WordsDict
import HandS.Text
import KE.IntTextText
import KE.KIntText
import HandS.Ends
import PyProof.ReprRoads
import PyProof.ReprLen
import KE.KDictPairs
import PyProof.EqKinds
import PyProof.Rows.EqNone
import HandS.MakeKwOnly
import HandS.Finally
import PySem.Challenge.RW_backwater_k28_stands_alike
set_option Elab.async false
set_option linter.all false
set_option maxRecDepth 100000
section
namespace Nt
open PySem
/-! ### nets, as plain lists -/
abbrev Br := List (Str × Int)
abbrev Pi := List ((Str × Str) × Int)
def nms (B : Br) : List Str := B.map (·.1)
def sumOf (f : (Str × Str) × Int → Bool) (P : Pi) : Int := ((P.filter f).map (·.2)).sum
def outW (P : Pi) (x : Str) : Int := sumOf (fun p => decide (p.1.1 = x)) P
def inW (P : Pi) (x : Str) : Int := sumOf (fun p => decide (p.1.2 = x)) P
inductive Opn (B : Br) (P : Pi) : Str → Prop
  | soak {x : Str} {b : Int} : (x, b) ∈ B → outW P x < b → Opn B P x
  | step {x y : Str} {w : Int} : ((x, y), w) ∈ P → Opn B P y → Opn B P x
structure Wf (nm : Str → Prop) (B : Br) (P : Pi) : Prop where
  nb : (nms B).Nodup
  lb : B.length ≤ 12
  rb : ∀ p ∈ B, nm p.1 ∧ 1 ≤ p.2 ∧ p.2 ≤ 60
  np : (P.map (·.1)).Nodup
  lp : P.length ≤ 200
  rp : ∀ p ∈ P, p.1.1 ∈ nms B ∧ p.1.2 ∈ nms B ∧ p.1.1 ≠ p.1.2 ∧ 1 ≤ p.2 ∧ p.2 ≤ 60
def Fit (B : Br) (P : Pi) : Prop := ∀ p ∈ B, outW P p.1 ≤ p.2 ∧ inW P p.1 ≤ p.2
theorem sumOf_nonneg {f : (Str × Str) × Int → Bool} {P : Pi} (h : ∀ p ∈ P, 0 ≤ p.2) : 0 ≤ sumOf f P := by
  unfold sumOf
  induction P with
  | nil => exact Int.le_refl _
  | cons p r ih =>
    have h1 := ih fun q hq => h q (List.mem_cons_of_mem _ hq)
    have h2 := h p List.mem_cons_self
    rw [List.filter_cons]
    split
    · rw [List.map_cons, List.sum_cons]; omega
    · exact h1
theorem perm_sum {l m : List Int} (h : l.Perm m) : l.sum = m.sum := by
  induction h with
  | nil => rfl
  | cons x _ ih => rw [List.sum_cons, List.sum_cons, ih]
  | swap x y l => simp only [List.sum_cons]; omega
  | trans _ _ a b => exact a.trans b
theorem sumOf_perm {f : (Str × Str) × Int → Bool} {P P' : Pi} (h : P.Perm P') : sumOf f P = sumOf f P' := by
  unfold sumOf
  exact perm_sum ((h.filter f).map _)
theorem outW_perm {P P' : Pi} (h : P.Perm P') (x : Str) : outW P x = outW P' x := sumOf_perm h
theorem inW_perm {P P' : Pi} (h : P.Perm P') (x : Str) : inW P x = inW P' x := sumOf_perm h
theorem Opn.perm {B B' : Br} {P P' : Pi} (hB : B.Perm B') (hP : P.Perm P') {x : Str} (h : Opn B P x) : Opn B' P' x := by
  induction h with
  | soak m l => exact .soak (hB.mem_iff.mp m) (by rw [← outW_perm hP]; exact l)
  | step m _ ih => exact .step (hP.mem_iff.mp m) ih
theorem Wf.perm {nm : Str → Prop} {B B' : Br} {P P' : Pi} (h : Wf nm B P) (hB : B.Perm B') (hP : P.Perm P') : Wf nm B' P' where
  nb := (hB.map Prod.fst).nodup_iff.mp h.nb
  lb := by rw [← hB.length_eq]; exact h.lb
  rb := fun p hp => h.rb p (hB.mem_iff.mpr hp)
  np := (hP.map Prod.fst).nodup_iff.mp h.np
  lp := by rw [← hP.length_eq]; exact h.lp
  rp := fun p hp => by
    obtain ⟨a, b, c⟩ := h.rp p (hP.mem_iff.mpr hp)
    exact ⟨(hB.map Prod.fst).mem_iff.mp a, (hB.map Prod.fst).mem_iff.mp b, c⟩
/-! ### lookups -/
def getB (B : Br) (x : Str) : Option Int := (B.find? fun p => decide (p.1 = x)).map (·.2)
theorem getB_mem {B : Br} {x : Str} {b : Int} (h : getB B x = some b) : (x, b) ∈ B := by
  unfold getB at h
  cases e : B.find? fun p => decide (p.1 = x) with
  | none => rw [e] at h; cases h
  | some p =>
    rw [e] at h
    have h1 := List.mem_of_find?_eq_some e
    have h2 := List.find?_some e
    have h3 : p.1 = x := of_decide_eq_true h2
    have h4 : p.2 = b := Option.some.inj h
    rw [← h3, ← h4]; exact h1
theorem getB_of_mem {B : Br} (nd : (nms B).Nodup) {x : Str} {b : Int} (h : (x, b) ∈ B) : getB B x = some b := by
  induction B with
  | nil => exact (List.not_mem_nil h).elim
  | cons p r ih =>
    obtain ⟨n1, n2⟩ := List.nodup_cons.mp (show (p.1 :: nms r).Nodup from nd)
    unfold getB
    rw [List.find?_cons]
    rcases List.mem_cons.mp h with e | e
    · rw [← e]; simp
    · have ne : p.1 ≠ x := fun z => n1 (by rw [z]; exact List.mem_map.mpr ⟨_, e, rfl⟩)
      rw [decide_eq_false ne]
      exact ih n2 e
theorem getB_none {B : Br} {x : Str} (h : x ∉ nms B) : getB B x = none := by
  unfold getB
  rw [List.find?_eq_none.mpr (fun p hp => by
    have : p.1 ≠ x := fun e => h (List.mem_map.mpr ⟨p, hp, e⟩)
    simpa using this)]
  rfl
theorem getB_some {B : Br} {x : Str} (h : x ∈ nms B) : ∃ b, getB B x = some b := by
  obtain ⟨p, hp, e⟩ := List.mem_map.mp h
  cases e2 : B.find? fun q => decide (q.1 = x) with
  | none =>
    have := List.find?_eq_none.mp e2 p hp
    rw [decide_eq_true e] at this
    exact absurd rfl this
  | some q => exact ⟨q.2, by unfold getB; rw [e2]; rfl⟩
/-! ### who has a way out, found step by step -/
structure Bfs (B : Br) (P : Pi) (S E : List Str) : Prop where
  nd : S.Nodup
  sub : ∀ x ∈ S, x ∈ nms B ∧ Opn B P x
  edge : ∀ x ∈ E, x ∈ S
  soak : ∀ x b, (x, b) ∈ B → outW P x < b → x ∈ S
  back : ∀ x y w, ((x, y), w) ∈ P → y ∈ S → x ∈ S ∨ y ∈ E
theorem Bfs.done {nm : Str → Prop} {B : Br} {P : Pi} {S : List Str} (h : Bfs B P S []) {x : Str} (o : Opn B P x) : x ∈ S := by
  induction o with
  | soak m l => exact h.soak _ _ m l
  | step m _ ih =>
    rcases h.back _ _ _ m ih with z | z
    · exact z
    · exact (List.not_mem_nil z).elim
/-- one round: the next edge has just those that lead into the edge and are not yet there -/
theorem Bfs.next {nm : Str → Prop} {B : Br} {P : Pi} (wf : Wf nm B P) {S E E' : List Str} (h : Bfs B P S E) (nd' : E'.Nodup) (he : ∀ x, x ∈ E' ↔ (∃ y w, ((x, y), w) ∈ P ∧ y ∈ E) ∧ x ∉ S) : Bfs B P (S ++ E') E' where
  nd := by
    rw [List.nodup_append]
    refine ⟨h.nd, nd', fun a ha b hb e => ?_⟩
    subst e
    exact ((he a).mp hb).2 ha
  sub := fun x hx => by
    rcases List.mem_append.mp hx with z | z
    · exact h.sub x z
    · obtain ⟨⟨y, w, m, hy⟩, _⟩ := (he x).mp z
      exact ⟨(wf.rp _ m).1, .step m (h.sub y (h.edge y hy)).2⟩
  edge := fun x hx => List.mem_append_right _ hx
  soak := fun x b m l => List.mem_append_left _ (h.soak x b m l)
  back := fun x y w m hy => by
    rcases List.mem_append.mp hy with z | z
    · rcases h.back x y w m z with q | q
      · exact .inl (List.mem_append_left _ q)
      · by_cases hx : x ∈ S
        · exact .inl (List.mem_append_left _ hx)
        · exact .inl (List.mem_append_right _ ((he x).mpr ⟨⟨y, w, m, q⟩, hx⟩))
    · exact .inr z
theorem len_le_of_sub {l m : List Str} (nd : l.Nodup) (h : ∀ x ∈ l, x ∈ m) : l.length ≤ m.length := by
  induction l generalizing m with
  | nil => exact Nat.zero_le _
  | cons x r ih =>
    obtain ⟨n1, n2⟩ := List.nodup_cons.mp nd
    have pm := List.perm_cons_erase (h x List.mem_cons_self)
    have := ih (m := m.erase x) n2 fun y hy => by
      rcases List.mem_cons.mp (pm.mem_iff.mp (h y (List.mem_cons_of_mem _ hy))) with e | e
      · exact absurd (e ▸ hy) n1
      · exact e
    rw [pm.length_eq, List.length_cons, List.length_cons]
    omega
/-! ### who has none, by leaving out -/
def leaves (P : Pi) (L : List Str) : List Str := L.filter fun x => (P.filter fun p => decide (p.1.1 = x)).all fun p => decide (p.1.2 ∈ L)
def leavesN (P : Pi) : Nat → List Str → List Str
  | 0, L => L
  | n + 1, L => leavesN P n (leaves P L)
theorem leaves_len (P : Pi) (L : List Str) : (leaves P L).length ≤ L.length := List.length_filter_le _ _
theorem leaves_fix {P : Pi} {L : List Str} (h : (leaves P L).length = L.length) : leaves P L = L := List.filter_eq_self.mpr (List.length_filter_eq_length_iff.mp h)
theorem leavesN_fix (P : Pi) : ∀ (n : Nat) (L : List Str), leaves P L = L → leavesN P n L = L
  | 0, _, _ => rfl
  | n + 1, L, h => by
    show leavesN P n (leaves P L) = L
    rw [h]; exact leavesN_fix P n L h
theorem leavesN_end (P : Pi) : ∀ (n : Nat) (L : List Str), L.length ≤ n → leaves P (leavesN P n L) = leavesN P n L
  | 0, L, h => by
    have : L = [] := List.length_eq_zero_iff.mp (Nat.le_zero.mp h)
    subst this; rfl
  | n + 1, L, h => by
    show leaves P (leavesN P n (leaves P L)) = leavesN P n (leaves P L)
    by_cases e : (leaves P L).length = L.length
    · have f := leaves_fix e
      rw [f, leavesN_fix P n L f, f]
    · have := leaves_len P L
      exact leavesN_end P n _ (by omega)
theorem leavesN_sub (P : Pi) : ∀ (n : Nat) (L : List Str) (x : Str), x ∈ leavesN P n L → x ∈ L
  | 0, _, _, h => h
  | n + 1, L, x, h => (List.mem_filter.mp (leavesN_sub P n _ x h)).1
theorem leaves_keep {P : Pi} {L : List Str} {x : Str} (hx : x ∈ L) (h : ∀ y w, ((x, y), w) ∈ P → y ∈ L) : x ∈ leaves P L := by
  refine List.mem_filter.mpr ⟨hx, List.all_eq_true.mpr fun p hp => ?_⟩
  obtain ⟨h1, h2⟩ := List.mem_filter.mp hp
  have e : p.1.1 = x := of_decide_eq_true h2
  refine decide_eq_true (h p.1.2 p.2 ?_)
  rw [← e]; exact h1
theorem leavesN_keep (P : Pi) (T : Str → Prop) (ht : ∀ x y w, T x → ((x, y), w) ∈ P → T y) : ∀ (n : Nat) (L : List Str), (∀ x, T x → x ∈ L) → ∀ x, T x → x ∈ leavesN P n L
  | 0, _, h => h
  | n + 1, L, h => leavesN_keep P T ht n _ fun x hx => leaves_keep (h x hx) fun y w m => h y (ht x y w hx m)
theorem fix_closed {B : Br} {P : Pi} {L : List Str} (hl : ∀ x ∈ L, ∀ b, (x, b) ∈ B → ¬ outW P x < b) (hf : leaves P L = L) {x : Str} (o : Opn B P x) : x ∉ L := by
  induction o with
  | soak m l => exact fun hx => hl _ hx _ m l
  | step m _ ih =>
    intro hx
    rw [← hf] at hx
    have := List.all_eq_true.mp (List.mem_filter.mp hx).2 _ (List.mem_filter.mpr ⟨m, decide_eq_true rfl⟩)
    exact ih (of_decide_eq_true this)
/-- what is left in the end: those without a way out -/
theorem leavesN_iff {nm : Str → Prop} {B : Br} {P : Pi} (wf : Wf nm B P) (fit : Fit B P) {L : List Str} (hL : ∀ x, x ∈ L ↔ ∃ b, (x, b) ∈ B ∧ b = outW P x) (nd : L.Nodup) (x : Str) :
    x ∈ leavesN P B.length L ↔ x ∈ nms B ∧ ¬ Opn B P x := by
  have ln : L.length ≤ B.length := by
    have := len_le_of_sub nd (m := nms B) fun x hx => by
      obtain ⟨b, hb, _⟩ := (hL x).mp hx
      exact List.mem_map.mpr ⟨_, hb, rfl⟩
    unfold nms at this
    rw [List.length_map] at this
    exact this
  constructor
  · intro hx
    have h0 := leavesN_sub P _ _ x hx
    obtain ⟨b, hb, _⟩ := (hL x).mp h0
    refine ⟨List.mem_map.mpr ⟨_, hb, rfl⟩, fun o => ?_⟩
    refine fix_closed (L := leavesN P B.length L) (fun y hy b hb lt => ?_) (leavesN_end P _ L ln) o hx
    obtain ⟨c, hc, e⟩ := (hL y).mp (leavesN_sub P _ _ y hy)
    have e1 := getB_of_mem wf.nb hb
    have e2 := getB_of_mem wf.nb hc
    rw [e1] at e2
    have : b = c := Option.some.inj e2
    omega
  · rintro ⟨hx, no⟩
    refine leavesN_keep P (fun y => y ∈ nms B ∧ ¬ Opn B P y) ?_ _ _ ?_ x ⟨hx, no⟩
    · rintro a c w ⟨ha, na⟩ m
      exact ⟨(wf.rp _ m).2.1, fun o => na (.step m o)⟩
    · rintro y ⟨hy, ny⟩
      obtain ⟨p, hp, e⟩ := List.mem_map.mp hy
      have e' : p.1 = y := e
      refine (hL y).mpr ⟨p.2, by rw [← e']; exact hp, ?_⟩
      have := (fit p hp).1
      rw [e'] at this
      by_cases lt : outW P y < p.2
      · exact absurd (.soak (by rw [← e']; exact hp) lt) ny
      · omega
end Nt
end
section
set_option maxHeartbeats 2000000
namespace Rl
open PySem PySem.Spec PyProof.Rows L2
/-! ### a comprehension of any kind: what is made stands at D, what a turn does with it is told by tb -/
def tGc (b0 : Addr → HO) (wi : TI) (g : TG) (tt : TT) (tb : Addr → L2.St → Hp → (Hp → Prop) → Prop) (vs : List Nat) : TE := fun σ H Q =>
  wi σ H fun J H1 => ∀ D, H1 D = none → ∃ W : Nat → Nat → Hp → Prop, (∃ m, W 0 m (upd H1 D (b0 D))) ∧ ∀ i m H, W i m H →
    (J.stop i H ∧ Q (.ref D) H) ∨ (J.go i H ∧ ∃ Nx : Hp → Prop, (∀ H', Nx H' → ∃ m', m' < m ∧ W (i + 1) m' H') ∧
      ∀ x H', J.yld i H x H' → g x (wipe σ vs) H' fun σ2 H2 => wipe σ2 vs = wipe σ vs ∧ tt σ2 H2 fun b H3 => if b = true then tb D σ2 H3 Nx else Nx H3)
/-- what a turn of the loop is to show -/
def TurnAt (P : Program) (w : World) (tg : Expr) (ifs : List Expr) (bd : Addr → Env → Around → (Shared → Prop) → (Value → Shared → Prop) → Shared → Prop)
    (A : Around) (R : Result → Shared → Prop) (it : Value) (D : Addr) (env : Env) (I : Nat → Shared → Prop) (n : Nat) (s : Shared) : Prop :=
  wpAny (model P w) A (pyNext it) (fun r s₁ => match r with
    | none => R (.ok .next) s₁
    | some v => wpAny (model P w) A (letOwnedTupleGo tg it v) (fun _ s₁' => wpAny (model P w) A (assign tg env v) (fun _ s₂ =>
        wpAny (model P w) A (forIn ifs true fun c r => if r = true then do let ok ← isTrue c env (eval c env); pure (ForInStep.yield ok) else pure (ForInStep.yield r))
          (fun ok s₃ => if ok = true then bd D env A (fun s' => ∃ m, m < n ∧ I m s') (notedBy (model P w) A env fun e s' => R (.error e) s') s₃ else ∃ m, m < n ∧ I m s₃)
          (notedBy (model P w) A env fun e s' => R (.error e) s') s₂) (notedBy (model P w) A env fun e s' => R (.error e) s') s₁') (notedBy (model P w) A env fun e s' => R (.error e) s') s₁)
    (notedBy (model P w) A env fun e s' => R (.error e) s') s
/-- a kind of comprehension: its expression, what it makes, its loop -/
structure Kind (P : Program) (w : World) (cx : Expr) (tg iter : Expr) (ifs : List Expr) (mk : Sem Value) (o0 : Obj) (bd : Addr → Env → Around → (Shared → Prop) → (Value → Shared → Prop) → Shared → Prop) : Prop where
  cl : clausesOf cx = [⟨tg, iter, ifs, 0⟩]
  new : ∀ {A : Around} {E : Value → Shared → Prop} {Q : Value → Shared → Prop} {s : Shared}, Q (.ref s.heap.objs.size) { s with heap := s.heap.push o0 } → wpAny (model P w) A mk Q E s
  weak : ∀ {D : Addr} {env : Env} {A : Around} {p p' : Shared → Prop} {e' : Value → Shared → Prop} {s : Shared}, (∀ s', p s' → p' s') → bd D env A p (fun _ _ => False) s → bd D env A p' e' s
  loop : ∀ {A : Around} {R : Result → Shared → Prop} {it : Value} {D : Addr} {env : Env} {s : Shared} (I : Nat → Shared → Prop), (∀ n s, I n s → TurnAt P w tg ifs bd A R it D env I n s) → ∀ n, I n s →
    codeAny (model P w) A (.compLoop cx 0 it (.ref D) env) R s
  start : ∀ {A : Around} {R : Result → Shared → Prop} {it acc : Value} {env : Env} {s : Shared}, codeAny (model P w) A (.compLoop cx 0 it acc env) R s →
    wpAny (model P w) A (pyIter it) (fun it' s' => codeAny (model P w) A (.compLoop cx 0 it' acc env) R s') (notedBy (model P w) A env fun x s' => R (.error x) s') s →
    codeAny (model P w) A (.compStart cx 0 it acc env) R s
section
variable {X : Cx}
theorem gc_core {pins : List (Addr × Obj)} {s : Shared} {σ : L2.St} {H : Hp} {Q : VK} {cx tg iter : Expr} {ifs : List Expr} {mk : Sem Value} {o0 : Obj} {bd : Addr → Env → Around → (Shared → Prop) → (Value → Shared → Prop) → Shared → Prop}
    {scope : Scope} {own : List (Str × Nat)} {pos' : Pos} {wi : TI} {g : TG} {tt : TT} {b0 : Addr → HO} {tb : Addr → L2.St → Hp → (Hp → Prop) → Prop} {use : Option (Value → Sem Unit)} {Qf : Value → Shared → Prop}
    (KD : Kind X.prog X.w cx tg iter ifs mk o0 bd)
    (hb0 : ∀ {pins : List (Addr × Obj)} {σ : L2.St} {H : Hp} {s : Shared}, Inv X pins σ H s → ObjOk X.prog X.w (upd H s.heap.objs.size (b0 s.heap.objs.size)) (s.heap.push o0) s.heap.objs.size (b0 s.heap.objs.size))
    (hc : X.calm = true) (hN : X.N.Nodup) (I : Inv X pins σ H s) (hi : PI X tg iter wi) (ok : BlkOk X.N X.env.scope scope own)
    (hg : ∀ (s : Shared) (H : Hp) (C : Addr) (cl : List (Str × Addr)) (fp : List Addr), PG (X.blk s H scope (compEnvC scope cl C X.env) fp) tg g)
    (ht : ∀ (s : Shared) (H : Hp) (C : Addr) (cl : List (Str × Addr)) (fp : List Addr), PTs (X.blk s H scope (compEnvC scope cl C X.env) fp) ifs tt)
    (hb : ∀ (s : Shared) (H : Hp) (C : Addr) (cl : List (Str × Addr)) (fp : List Addr) (pins : List (Addr × Obj)) (σ : L2.St) (H' : Hp) (s' : Shared) (D : Addr) (Nx : Hp → Prop),
      Inv (X.blk s H scope (compEnvC scope cl C X.env) fp) pins σ H' s' → tb D σ H' Nx → bd D (compEnvC scope cl C X.env) X.A (fun s'' => ∃ H'', Inv (X.blk s H scope (compEnvC scope cl C X.env) fp) pins σ H'' s'' ∧ Nx H'') (fun _ _ => False) s')
    (hs : ∀ x, foldedSetIterable iter X.env x = pure x)
    (h : tGc b0 wi g tt tb (own.map (·.2)) σ H Q)
    (hRR : ∀ D C s' m H', Inv X pins σ H' s' → Q (.ref D) H' → s'.heap.Ns C m → FpOk X pins H' C → compPost (model X.prog X.w) X.A X.xe use Qf (.ref D) C (.ok .next) s') :
    wpAny (model X.prog X.w) X.A (comprehension cx scope X.env pos' mk false (eval iter X.env) use) Qf X.xe s := by
  have free : ∀ y ∈ scope.names, y.2 = .free → ∃ c, X.env.cells.lookup y.1 = some c := by
    intro y hy e
    exact (ok.free y hy e).elim (fun k => I.ok.has _ (.inl k)) (fun k => I.ok.has _ (.inr k))
  refine wpAny_comprehension_free (use := use) KD.cl hs (closure_ok free) ok.kind
    (by intro y hy e; rw [ok.uniq y hy, e]) (thn (hi.run pins s σ H _ I h) (fun xv s1 hx => thn hx (fun itv s2 h2 => ?_)))
  obtain ⟨it, fp, tn, J, H2, rfl, I2, T, st2, f2, q⟩ := h2
  refine KD.new (newEnv_comp ?_)
  obtain ⟨D, hD⟩ : ∃ D, s2.heap.objs.size = D := ⟨_, rfl⟩
  have nD : H2 D = none := I2.hok.fresh (Nat.le_of_eq hD)
  obtain ⟨W, ⟨m0, w0⟩, turn⟩ := q D nD
  rw [hD]
  obtain ⟨s3, hs3⟩ : ∃ s3 : Shared, s3 = { s2 with heap := s2.heap.push o0 } := ⟨_, rfl⟩
  rw [← hs3]
  have h3 : s3.heap = s2.heap.push o0 := by rw [hs3]
  obtain ⟨H3, hH3⟩ : ∃ H3, H3 = upd H2 D (b0 D) := ⟨_, rfl⟩
  rw [← hH3] at w0
  have I3 : Inv X pins σ H3 s3 := by
    have z := I2.laid (t' := s2.toks) (h' := s2.heap.push o0) (fun b o e => Heap.get?_push_of_some _ e) (Nat.le_refl _) (hb0 I2)
    rw [hs3, hH3, ← hD]
    exact z
  have old : ∀ b ∈ fp, b < s2.heap.objs.size := by
    intro b hb
    obtain ⟨o, e, _⟩ := T.obj _ _ st2 b hb
    exact Heap.lt_size e
  have f3 : ∀ b ∈ fp, FpOk X pins H3 b ∧ b < s3.heap.objs.size := by
    intro b hb
    have lt := old b hb
    refine ⟨⟨?_, (f2 b hb).2⟩, ?_⟩
    · rw [hH3, upd_ne (show b ≠ D from by rw [← hD]; exact Nat.ne_of_lt lt)]
      exact (f2 b hb).1
    · rw [h3, Heap.size_push]; exact Nat.lt_succ_of_lt lt
  have st3 : tn 0 s3.heap := T.keep _ _ _ st2 (by intro b _ o e; rw [h3]; exact Heap.get?_push_of_some _ e)
  have I4 := block_start I3 ok hN f3
  have pg := hg s3 H3 s3.heap.objs.size (cellsFrom (s3.heap.objs.size + 1) scope.names (cloFrom X.env.cells scope.names [])) fp
  have pt := ht s3 H3 s3.heap.objs.size (cellsFrom (s3.heap.objs.size + 1) scope.names (cloFrom X.env.cells scope.names [])) fp
  have pb := hb s3 H3 s3.heap.objs.size (cellsFrom (s3.heap.objs.size + 1) scope.names (cloFrom X.env.cells scope.names [])) fp
  show codeAny _ _ (.compStart cx 0 (.ref it) (.ref D) (compEnvC scope (cellsFrom (s3.heap.objs.size + 1) scope.names (cloFrom X.env.cells scope.names [])) s3.heap.objs.size X.env))
    (compPost (model X.prog X.w) X.A X.xe use Qf (.ref D) s3.heap.objs.size) { s3 with heap := pushCells (s3.heap.push { cls := .type "dict", data := .dict #[] }) scope.names }
  have nfp : ∀ b ∈ fp, H3 b = none := fun b hb => (f3 b hb).1.1
  obtain ⟨ce, hce⟩ : ∃ ce, ce = compEnvC scope (cellsFrom (s3.heap.objs.size + 1) scope.names (cloFrom X.env.cells scope.names [])) s3.heap.objs.size X.env := ⟨_, rfl⟩
  rw [← hce] at I4 pg pt pb ⊢
  have cL : ce.locals = s3.heap.objs.size := by rw [hce]; rfl
  obtain ⟨s4, hs4⟩ : ∃ s4 : Shared, s4 = { s3 with heap := pushCells (s3.heap.push { cls := .type "dict", data := .dict #[] }) scope.names } := ⟨_, rfl⟩
  rw [← hs4] at I4 ⊢
  have st4 : tn 0 s4.heap := T.keep _ _ _ st3 (by intro b _ o e; rw [hs4]; exact pushCells_keeps _ _ _ _ (Heap.get?_push_of_some _ e))
  have stat : ∀ {σ' : L2.St} {H' : Hp} {s' : Shared}, Inv (X.blk s3 H3 scope ce fp) [] σ' H' s' → (∀ b ∈ fp, H' b = none) → ∀ b ∈ fp, FpOk (X.blk s3 H3 scope ce fp) [] H' b := by
    intro σ' H' s' J' hn b hb
    refine ⟨hn b hb, (J'.ok.exf b hb).1, J'.ok.exfs b hb, .inl hb, fun x c e => (J'.ok.exf b hb).2 x c e, fun p hp => ?_⟩
    exact (List.not_mem_nil (show p ∈ ([] : List (Addr × Obj)) from hp)).elim
  have loop : codeAny (model X.prog X.w) X.A (.compLoop cx 0 (.ref it) (.ref D) ce) (compPost (model X.prog X.w) X.A X.xe use Qf (.ref D) s3.heap.objs.size) s4 := by
    refine KD.loop (fun n s' => ∃ i H', Inv (X.blk s3 H3 scope ce fp) [] (wipe σ (own.map (·.2))) H' s' ∧ tn i s'.heap ∧ (∀ b ∈ fp, H' b = none) ∧ W i n H') ?_ m0 ⟨0, H3, I4, st4, nfp, w0⟩
    rintro n s5 ⟨i, H5, I5, st5, n5, w5⟩
    rcases turn i n H5 w5 with ⟨stop, qq⟩ | ⟨go, Nx, hNx, step⟩
    · refine thnF (T.done (X.blk s3 H3 scope ce fp) rfl rfl rfl hc i [] s5 _ H5 (fun _ _ => False) I5 (stat I5 n5) st5 stop) ?_
      rintro r s6 ⟨rfl, I6⟩
      have I7 : Inv X pins σ H5 s6 := I3.call' (ch := fp) I6.os I6.base I6.hok I6.bare (by
        intro b hb
        have z := (f3 b hb).1
        exact ⟨z.2.2.2.1, z.2.1, z.2.2.2.2.1, z.2.2.2.2.2⟩)
      have nC : H5 s3.heap.objs.size = none := by
        rw [← cL]; exact I6.free
      obtain ⟨m, hn, _⟩ := I6.loc
      have hn' : s6.heap.Ns s3.heap.objs.size m := by
        rw [← cL]; exact hn
      exact hRR D s3.heap.objs.size s6 m H5 I7 qq hn' (I3.fpOk (Nat.le_refl _) nC)
    · refine thnF (T.item (X.blk s3 H3 scope ce fp) rfl rfl rfl hc i [] s5 _ H5 (fun _ _ => False) I5 (stat I5 n5) st5 go) ?_
      rintro r s6 ⟨u, rfl, h6⟩
      refine thnF h6 ?_
      rintro _ s7 ⟨x, H7, I7, r7, y7, st7, n7⟩
      have I7' := I7.pinned (stat I7 n7) (T.obj _ _ st7)
      refine thnF (pg.run _ s7 _ H7 x u _ I7' r7 (step x H7 y7)) ?_
      rintro _ s8 ⟨σ8, H8, I8, hw8, q8⟩
      refine thnF (pt.run _ s8 σ8 H8 _ I8 q8) ?_
      rintro b s9 ⟨H9, I9, q9⟩
      have fin : ∀ {s' : Shared} {H' : Hp}, Inv (X.blk s3 H3 scope ce fp) ([] ++ pinsAt fp s7.heap) σ8 H' s' → Nx H' →
          ∃ m, m < n ∧ ∃ i H', Inv (X.blk s3 H3 scope ce fp) [] (wipe σ (own.map (·.2))) H' s' ∧ tn i s'.heap ∧ (∀ b ∈ fp, H' b = none) ∧ W i m H' := by
        intro s' H' I' nx
        obtain ⟨m', hm, w'⟩ := hNx H' nx
        have kept : ∀ b ∈ fp, ∀ o, s7.heap.get? b = some o → s'.heap.get? b = some o ∧ H' b = none := by
          intro b hb o e
          have z := I'.pin (b, o) (List.mem_append_right _ (List.mem_append_right _ (mem_pinsAt hb e)))
          exact ⟨z.1, z.2.1⟩
        refine ⟨m', hm, i + 1, H', (I'.unpinned (pins := [])).weak (by rw [← hw8, wipe_length]) (fun j v e => ?_), T.keep _ _ _ st7 (fun b hb o e => (kept b hb o e).1), fun b hb => ?_, w'⟩
        · rw [← hw8] at e; exact (wipe_some e).1
        · obtain ⟨o, e, _⟩ := T.obj _ _ st7 b hb
          exact (kept b hb o e).2
      cases b with
      | false =>
        rw [if_neg Bool.false_ne_true] at q9
        exact iteF (fin I9 q9)
      | true =>
        rw [if_pos rfl] at q9
        refine iteT (KD.weak ?_ (pb _ σ8 H9 s9 D Nx I9 q9))
        rintro s' ⟨H', I', nx⟩
        exact fin I' nx
  exact KD.start loop (T.self X.A 0 _ _ _ st4 loop)
end
end Rl
end
section
set_option maxHeartbeats 2000000
namespace Rl
open PySem PySem.Spec PyProof.Rows L2
/-! ### over a walk -/
theorem gc_it {J : It} {n : Nat} {G : Hp → Prop} {Y : Nat → Hp → V → Hp → Prop} (w : Walk J n G Y) {b0 : Addr → HO} {g : TG} {tt : TT} {tb : Addr → L2.St → Hp → (Hp → Prop) → Prop} {vs : List Nat} {σ : L2.St} {H1 : Hp} {D : Addr} {Qd : Hp → Prop} (Pv : Nat → Hp → Prop)
    (h0 : Pv 0 (upd H1 D (b0 D))) (hG : ∀ i H, i ≤ n → Pv i H → G H)
    (hs : ∀ i x H H', i < n → Pv i H → Y i H x H' → g x (wipe σ vs) H' fun σ2 H2 => wipe σ2 vs = wipe σ vs ∧ tt σ2 H2 fun b H3 => if b = true then tb D σ2 H3 (Pv (i + 1)) else Pv (i + 1) H3)
    (hd : ∀ H, Pv n H → Qd H) :
    ∃ W : Nat → Nat → Hp → Prop, (∃ m, W 0 m (upd H1 D (b0 D))) ∧ ∀ i m H, W i m H →
      (J.stop i H ∧ Qd H) ∨ (J.go i H ∧ ∃ Nx : Hp → Prop, (∀ H', Nx H' → ∃ m', m' < m ∧ W (i + 1) m' H') ∧
        ∀ x H', J.yld i H x H' → g x (wipe σ vs) H' fun σ2 H2 => wipe σ2 vs = wipe σ vs ∧ tt σ2 H2 fun b H3 => if b = true then tb D σ2 H3 Nx else Nx H3) := by
  refine ⟨fun i m H => m + i = n ∧ Pv i H, ⟨n, rfl, h0⟩, ?_⟩
  rintro i m H ⟨e, p⟩
  have q := hG i H (by omega) p
  rcases Nat.lt_or_ge i n with lt | ge
  · refine .inr ⟨w.goes i H lt q, Pv (i + 1), fun H' p' => ⟨m - 1, by omega, by omega, p'⟩, fun x H' y => hs i x H H' lt p (w.yields i H x H' lt q y)⟩
  · have ei : i = n := by omega
    subst ei
    exact .inl ⟨w.stops H q, hd H p⟩
/-! ### {k: v for ..} -/
def bdD (P : Program) (w : World) (kx vx : Expr) (D : Addr) (env : Env) (A : Around) (p : Shared → Prop) (e : Value → Shared → Prop) (s : Shared) : Prop :=
  wpAny (model P w) A (eval kx env) (fun kv s4 => wpAny (model P w) A (eval vx env) (fun vv s5 => wpAny (model P w) A (dictSet D kv vv) (fun _ s6 => p s6) e s5) e s4) e s
theorem kindD (P : Program) (w : World) (kx vx tg iter : Expr) (ifs : List Expr) (scope : Scope) (pos : Pos) :
    Kind P w (.DictComp kx vx [⟨tg, iter, ifs, 0⟩] scope pos) tg iter ifs newDict { cls := .type "dict", data := .dict #[] } (bdD P w kx vx) where
  cl := rfl
  new := fun h => wpAny_newObj_type h
  weak := fun hp h => wpAny_mono h (fun _ _ h1 => wpAny_mono h1 (fun _ _ h2 => wpAny_mono h2 (fun _ _ h3 => hp _ h3) fun _ _ z => z.elim) fun _ _ z => z.elim) fun _ _ z => z.elim
  loop := fun I turn n h => compLoop_anyD I turn n h
  start := fun h0 h => codeAny_compStart_dict h0 h
section
variable {X : Cx}
/-- d[y] = v where the comprehension does it -/
theorem dset_ok {pins : List (Addr × Obj)} {σ : L2.St} {H H' : Hp} {s : Shared} {E : Value → Shared → Prop} {D : Addr} {y v : V} {u r : Value} {Q : Unit → Shared → Prop} (hu : X.A.units < cLine) (I : Inv X pins σ H s) (g : DPut H D y v H') (ry : RelV y u) (rv : RelV v r)
    (h : ∀ s', Inv X pins σ H' s' → Q () s') : wpAny (model X.prog X.w) X.A (dictSet D u r) Q E s := by
  rcases g with ⟨kvs, k, e, rfl, l, rfl⟩ | ⟨kvs, k, b, e, rfl, eb, l, rfl⟩
  · exact d_dictSet I e l ry rv h
  · cases (show u = Value.ref b from ry)
    obtain ⟨z, hd, xs, rel, dd⟩ := dt_of I.hok e
    have l1 : xs.length ≤ sizeLine := by rw [← Paired.length rel]; exact z
    have l2 : (putK kvs k v).length ≤ sizeLine := by have := length_putK kvs k v; omega
    refine wpAny_dictSet_heap (hsz := l1) (show (tupleKind (mixKind X.prog X.w)).room X.A from hu) (key_of I.hok eb) dd (fun h' dd' sb => h _ ?_)
    obtain ⟨q, es, ep, hq, h2, h3, h4, _, h5⟩ := dd'
    refine d_write I (by rw [e]; trivial) sb ⟨q, hq⟩ ⟨l2, hd, _, (rel.put k eb rv).keeps (fun c ys ec => ?_), q, es, ep, hq, h2, h3, h4, h5⟩
    rw [upd_ne (ne_of ec e (fun z => nomatch z))]; exact ec
def tbD (tk tv : TE) : Addr → L2.St → Hp → (Hp → Prop) → Prop := fun D σ H Nx => tk σ H fun y H4 => tv σ H4 fun z H5 => ∃ H6, DPut H5 D y z H6 ∧ Nx H6
theorem eval_dc (kx vx : Expr) (gens : List Comprehension) (scope : Scope) (pos : Pos) (env : Env) : eval (.DictComp kx vx gens scope pos) env =
    comprehension (.DictComp kx vx gens scope pos) scope env (firstIterPos gens pos) newDict (firstAsync gens) (firstIter gens env) := rfl
/-- {k: v for ..}, keys tuples (T := .dT []) or ints and texts (T := .dK []) -/
theorem pe_dcP {T : HO} {kx vx tg iter : Expr} {ifs : List Expr} {scope : Scope} {own : List (Str × Nat)} {pos : Pos} {wi : TI} {g : TG} {tt : TT} {tk tv : TE} {j : Nat} (hT : T = .dT [] ∨ T = .dK []) (hr : Room j X.A) (hc : X.calm = true) (hN : X.N.Nodup) (hi : PI X tg iter wi) (ok : BlkOk X.N X.env.scope scope own)
    (hg : ∀ (s : Shared) (H : Hp) (C : Addr) (cl : List (Str × Addr)) (fp : List Addr), PG (X.blk s H scope (compEnvC scope cl C X.env) fp) tg g)
    (ht : ∀ (s : Shared) (H : Hp) (C : Addr) (cl : List (Str × Addr)) (fp : List Addr), PTs (X.blk s H scope (compEnvC scope cl C X.env) fp) ifs tt)
    (hk : ∀ (s : Shared) (H : Hp) (C : Addr) (cl : List (Str × Addr)) (fp : List Addr), PE (X.blk s H scope (compEnvC scope cl C X.env) fp) kx tk)
    (he : ∀ (s : Shared) (H : Hp) (C : Addr) (cl : List (Str × Addr)) (fp : List Addr), PE (X.blk s H scope (compEnvC scope cl C X.env) fp) vx tv) (hs : ∀ x, foldedSetIterable iter X.env x = pure x := by intro _; rfl) :
    PE X (.DictComp kx vx [⟨tg, iter, ifs, 0⟩] scope pos) (tGc (fun _ => T) wi g tt (tbD tk tv) (own.map (·.2))) := by
  refine ⟨fun pins s σ H Q I h => ?_⟩
  rw [eval_dc]
  refine gc_core (kindD X.prog X.w kx vx tg iter ifs scope pos) (fun {_ _ _ s1} I1 => ?_) hc hN I hi ok hg ht ?_ hs h (fun D C s' m H' I' q hn f => ⟨m, hn, fun h'' sb => ?_⟩)
  · rcases hT with rfl | rfl
    · exact dt_empty s1.heap I1.big
    · exact dk_empty s1.heap I1.big
  · intro s1 H1 C cl fp pins' σ' H' s' D Nx I' q
    refine thnF ((hk s1 H1 C cl fp).run _ s' σ' H' _ I' q) ?_
    rintro kv s2 ⟨y, H2, I2, r2, q2⟩
    refine thnF ((he s1 H1 C cl fp).run _ s2 σ' H2 _ I2 q2) ?_
    rintro vv s3 ⟨z, H3, I3, r3, H4, put, nx⟩
    exact dset_ok (X := X.blk s1 H1 scope (compEnvC scope cl C X.env) fp) hr.units0 I3 put r2 r3 (fun s4 I4 => ⟨H4, I4, nx⟩)
  · obtain ⟨f0, f1, f2, f3, f4, f5⟩ := f
    exact ⟨.ref D, H', I'.turned (t' := s'.toks) (fun b o hb e => (sb.2 b hb).trans e) f0 f1 f3 f4 f5, rfl, q⟩
end
end Rl
end
section
set_option maxHeartbeats 2000000
namespace Rl
open PySem PySem.Spec PyProof.Rows L2 PySem.Froz
/-! ### sets of texts that can be walked -/
def SetTx (P : Program) (w : World) (h : Heap) (a : Addr) (l : List Str) : Prop :=
  ∃ D : SD, h.get? a = some (sObj "set" D) ∧ TxOk P w D l ∧ l.Nodup ∧ l.length < scanBound ∧ Ris D.2.2.place.toList ∧ (w.params.followText "set-order" = true ∨ D.2.2.led = true)
def SetX (P : Program) (w : World) (a : Addr) (l : List Str) : HO := .ext fun h => SetTx P w h a l
theorem SetTx.at {P : Program} {w : World} {h h' : Heap} {a : Addr} {l : List Str} (R : SetTx P w h a l) (k : ∀ o, h.get? a = some o → h'.get? a = some o) : SetTx P w h' a l := by
  obtain ⟨D, ho, r⟩ := R
  exact ⟨D, k _ ho, r⟩
theorem setX_new {P : Program} {w : World} {H : Hp} {h : Heap} {a : Addr} {l : List Str} (R : SetTx P w h a l) : ObjOk P w H h a (SetX P w a l) :=
  ⟨R, ⟨_, R.choose_spec.1⟩, fun h1 h2 p k => SetTx.at p k⟩
theorem tail_led (ep : Nat) (es1 : Array (Int × Value)) (t2 : SetTable) (b : Bool) : (tailTx ep es1 t2 b).2.2.led = t2.led := by
  unfold tailTx
  by_cases c : (!b && t2.tooFull) = true
  · rw [if_pos c]; exact relayAll_led _ _ _
  · rw [if_neg c]
theorem tail_ris (ep : Nat) (es1 : Array (Int × Value)) (t2 : SetTable) (b : Bool) (r : Ris t2.place.toList) : Ris (tailTx ep es1 t2 b).2.2.place.toList := by
  unfold tailTx
  by_cases c : (!b && t2.tooFull) = true
  · rw [if_pos c]; exact relayAll_ris _ _ _
  · rw [if_neg c]; exact r
theorem addTx_led (h : Int) (v : Value) (D : SD) : (addTx h v D).2.2.led = D.2.2.led := by
  have e1 : ∀ t2 : SetTable, (if t2.plain = true then { t2 with plain := false } else t2).led = t2.led := fun t2 => by split <;> rfl
  unfold addTx
  rw [tail_led, e1, layNew_led]
theorem addTx_ris (h : Int) (v : Value) (D : SD) (r : Ris D.2.2.place.toList) : Ris (addTx h v D).2.2.place.toList := by
  have e1 : ∀ t2 : SetTable, (if t2.plain = true then { t2 with plain := false } else t2).place = t2.place := fun t2 => by split <;> rfl
  unfold addTx
  refine tail_ris _ _ _ _ ?_
  rw [e1]
  exact layNew_ris _ _ h v r
section
variable {P : Program} {w : World} {A : Around} {E : Value → Shared → Prop} {s : Shared}
/-- it is there already -/
theorem has_add {a : Addr} {D : SD} {l : List Str} {k : Str} {u : Tok} {Q : Bool → Shared → Prop} (ho : s.heap.get? a = some (sObj "set" D)) (F : TxOk P w D l) (hk : k ∈ l) (hb : l.length < scanBound)
    (h : Q false s) : wpAny (model P w) A (setAddHashed a (.str k u) (hashStr w k)) Q E s := by
  obtain ⟨es, ep, t⟩ := D
  have e1 : es.size = l.length := F.sz
  have e2 : ElemsOf (strKind P w) es.toList := F.el
  have e3 : t.fits es.size = true := F.fit
  obtain ⟨x, hx, px⟩ := (F.mem k).mp hk
  unfold setAddHashed setAddHashedIn
  refine wpAny_holding (wpAny_bind (wpAny_setState_of ho rfl e3 ?_))
  dsimp only
  rw [byScan_of rfl (by omega) e2]
  simp only [↓reduceIte]
  unfold setAddByScan
  refine wpAny_bind (wpAny_bind (wpAny_rule (wpAny_bind (wpAny_setScan_of (knd := strKind P w) (k := k) (is_str k u) ho rfl e3 e2 ?_))))
  cases hf : List.findIdx? (fun e => (strKind P w).is k e.2) es.toList with
  | some j => exact wpAny_pure (wpAny_pure h)
  | none =>
    have c := List.findIdx?_eq_none_iff.mp hf x hx
    rw [px] at c
    cases c
/-- found.add(k) -/
theorem setTx_add {a : Addr} {l : List Str} {k : Str} {u : Tok} {Q : Value → Shared → Prop} (R : SetTx P w s.heap a l) (room : l.length + 1 < scanBound)
    (hQ : ∀ h', Heap.SameBut a s.heap h' → SetTx P w h' a (if k ∈ l then l else k :: l) → Q .none { s with heap := h', toks := s.toks + 1 }) :
    wpAny (model P w) A (call (.builtin "set.add") [.ref a, .str k u]) Q E s := by
  obtain ⟨D, ho, F, nd, hb, r, hl⟩ := R
  refine wpAny_call_entry PySem.F.slot_set_add ⟨_, ho, rfl⟩ PySem.F.entry_set_add ?_ (PySem.F.args_set_add_2 _ _)
  unfold Builtin.«set.add» Builtin.Frozenset.oneOther
  simp only [List.isEmpty_nil, bind_assoc]
  unfold Builtin.Frozenset.addrOf setAdd
  refine wpAny_bind (wpAny_pure ?_)
  try dsimp only
  refine wpAny_bind (wpAny_pure ?_)
  try dsimp only
  refine wpAny_bind (wpAny_holding (wpAny_bind ((strKind P w).pyHash (is_str k u) ?_)))
  by_cases hk : k ∈ l
  · refine has_add (s := { s with toks := s.toks + 1 }) ho F hk hb ?_
    show wpAny _ _ (ret Value.none) _ _ _
    refine wpAny_pure ⟨_, rfl, hQ s.heap (Heap.SameBut.refl a s.heap) ?_⟩
    rw [if_pos hk]
    exact ⟨D, ho, F, nd, hb, r, hl⟩
  · refine add_x (s := { s with toks := s.toks + 1 }) ho F hk room ?_
    show wpAny _ _ (ret Value.none) _ _ _
    refine wpAny_pure ⟨_, rfl, hQ _ (Heap.SameBut.update s.heap a _) ?_⟩
    rw [if_neg hk]
    exact ⟨_, get_upd _ ho rfl, add_ok u F, List.nodup_cons.mpr ⟨hk, nd⟩, room, addTx_ris _ _ _ r, by rw [addTx_led]; exact hl⟩
end
end Rl
end
section
set_option maxHeartbeats 2000000
namespace Rl
open PySem PySem.Spec PyProof.Rows L2 PySem.Froz
/-! ### {text for ..} -/
def bdS (P : Program) (w : World) (elt : Expr) (D : Addr) (env : Env) (A : Around) (p : Shared → Prop) (e : Value → Shared → Prop) (s : Shared) : Prop :=
  wpAny (model P w) A (eval elt env) (fun x s4 => wpAny (model P w) A (call (.builtin "set.add") [.ref D, x]) (fun _ s5 => p s5) e s4) e s
def set0 (w : World) : Obj := { cls := .type "set", dict := none, data := .set #[] 0 (.fresh 0 0 (!w.params.followText "set-order")) }
theorem kindS (P : Program) (w : World) (elt tg iter : Expr) (ifs : List Expr) (scope : Scope) (pos : Pos) :
    Kind P w (.SetComp elt [⟨tg, iter, ifs, 0⟩] scope pos) tg iter ifs (newSet (.type "set")) (set0 w) (bdS P w elt) where
  cl := rfl
  new := fun h => PpSet.newSet_ok h
  weak := fun hp h => wpAny_mono h (fun _ _ h1 => wpAny_mono h1 (fun _ _ h2 => hp _ h2) fun _ _ z => z.elim) fun _ _ z => z.elim
  loop := fun I turn n h => PpSet.compLoopS_any I turn n h
  start := fun h0 h => PpSet.codeAny_compStart_set h0 h
theorem setTx_fresh (P : Program) (w : World) (h : Heap) : SetTx P w (h.push (set0 w)) h.objs.size [] := by
  refine ⟨(#[], 0, .fresh 0 0 (!w.params.followText "set-order")), Heap.get?_push_size _ rfl, TxOk.nil (by rfl), List.nodup_nil, by decide, List.Pairwise.nil, ?_⟩
  show _ ∨ (!w.params.followText "set-order") = true
  cases w.params.followText "set-order"
  · exact .inr rfl
  · exact .inl rfl
section
variable {X : Cx}
def tbS (P : Program) (w : World) (te : TE) : Addr → L2.St → Hp → (Hp → Prop) → Prop := fun D σ H Nx => te σ H fun y H4 => ∃ (k : Str) (l : List Str),
  y = .str k ∧ H4 D = some (SetX P w D l) ∧ l.length + 1 < scanBound ∧ Nx (upd H4 D (SetX P w D (if k ∈ l then l else k :: l)))
theorem setX_add {pins : List (Addr × Obj)} {σ : L2.St} {H : Hp} {s : Shared} {E : Value → Shared → Prop} {D : Addr} {l : List Str} {k : Str} {u : Value} {Q : Value → Shared → Prop} (I : Inv X pins σ H s) (hD : H D = some (SetX X.prog X.w D l)) (room : l.length + 1 < scanBound) (ru : RelV (.str k) u)
    (h : ∀ s', Inv X pins σ (upd H D (SetX X.prog X.w D (if k ∈ l then l else k :: l))) s' → Q .none s') : wpAny (model X.prog X.w) X.A (call (.builtin "set.add") [.ref D, u]) Q E s := by
  obtain ⟨t, rfl⟩ := (show ∃ t, u = Value.str k t from ru)
  refine setTx_add (show SetTx X.prog X.w s.heap D l from (I.hok D _ hD).1) room (fun h' sb new => h _ ?_)
  exact I.write (e := D) (t' := s.toks + 1) (by rw [hD]; trivial) (.inl rfl) (fun b u hb hu => (sb.2 b hb).trans hu) ⟨_, new.choose_spec.1⟩ (setX_new new)
theorem pe_scX {elt tg iter : Expr} {ifs : List Expr} {scope : Scope} {own : List (Str × Nat)} {pos : Pos} {wi : TI} {g : TG} {tt : TT} {te : TE} (hc : X.calm = true) (hN : X.N.Nodup) (hi : PI X tg iter wi) (ok : BlkOk X.N X.env.scope scope own)
    (hg : ∀ (s : Shared) (H : Hp) (C : Addr) (cl : List (Str × Addr)) (fp : List Addr), PG (X.blk s H scope (compEnvC scope cl C X.env) fp) tg g)
    (ht : ∀ (s : Shared) (H : Hp) (C : Addr) (cl : List (Str × Addr)) (fp : List Addr), PTs (X.blk s H scope (compEnvC scope cl C X.env) fp) ifs tt)
    (he : ∀ (s : Shared) (H : Hp) (C : Addr) (cl : List (Str × Addr)) (fp : List Addr), PE (X.blk s H scope (compEnvC scope cl C X.env) fp) elt te) (hs : ∀ x, foldedSetIterable iter X.env x = pure x := by intro _; rfl) :
    PE X (.SetComp elt [⟨tg, iter, ifs, 0⟩] scope pos) (tGc (fun D => SetX X.prog X.w D []) wi g tt (tbS X.prog X.w te) (own.map (·.2))) := by
  refine ⟨fun pins s σ H Q I h => ?_⟩
  rw [PpSet.eval_SetComp]
  refine gc_core (kindS X.prog X.w elt tg iter ifs scope pos) (fun {_ _ _ s1} I1 => setX_new (setTx_fresh _ _ s1.heap)) hc hN I hi ok hg ht ?_ hs h (fun D C s' m H' I' q hn f => ⟨m, hn, fun h'' sb => ?_⟩)
  · intro s1 H1 C cl fp pins' σ' H' s' D Nx I' q
    refine thnF ((he s1 H1 C cl fp).run _ s' σ' H' _ I' q) ?_
    rintro x s2 ⟨y, H2, I2, r2, k, l, rfl, hD, room, nx⟩
    exact setX_add (X := X.blk s1 H1 scope (compEnvC scope cl C X.env) fp) I2 hD room r2 (fun s4 I4 => ⟨_, I4, nx⟩)
  · obtain ⟨f0, f1, f2, f3, f4, f5⟩ := f
    exact ⟨.ref D, H', I'.turned (t' := s'.toks) (fun b o hb e => (sb.2 b hb).trans e) f0 f1 f3 f4 f5, rfl, q⟩
end
/-! ### sorted of it -/
theorem perm_of_nodup : ∀ {l m : List Str}, l.Nodup → (∀ x ∈ l, x ∈ m) → m.length ≤ l.length → m.Perm l
  | [], m, _, _, h => by
    have : m = [] := List.length_eq_zero_iff.mp (Nat.le_zero.mp h)
    rw [this]
  | x :: r, m, nd, hs, hl => by
    obtain ⟨n1, n2⟩ := List.nodup_cons.mp nd
    have hx := hs x List.mem_cons_self
    have pm := List.perm_cons_erase hx
    have ln : m.length = (m.erase x).length + 1 := by rw [pm.length_eq, List.length_cons]
    refine pm.trans (List.Perm.cons x (perm_of_nodup n2 (fun y hy => ?_) (by rw [List.length_cons] at hl; omega)))
    have hy' := hs y (List.mem_cons_of_mem _ hy)
    have ne : y ≠ x := fun e => n1 (e ▸ hy)
    rcases List.mem_cons.mp (pm.mem_iff.mp hy') with e | e
    · exact absurd e ne
    · exact e
def txOf : Value → Str
  | .str k _ => k
  | _ => Str.empty
theorem strs_of : ∀ {l : List Value}, (∀ v ∈ l, ∃ k t, v = Value.str k t) → StrsAre l (l.map txOf)
  | [], _ => .nil
  | v :: l, h => by
    obtain ⟨k, t, rfl⟩ := h v List.mem_cons_self
    exact .cons k t (strs_of fun u hu => h u (List.mem_cons_of_mem _ hu))
section
variable {X : Cx}
def rSortX (P : Program) (w : World) : List V → Hp → VK → Prop := fun vs H Q => ∃ (a : Addr) (l : List Str), vs = [.ref a] ∧ H a = some (SetX P w a l) ∧ l.length < 64 ∧
  ∀ (ys : List Str) (p : Addr), ys.Perm l → sortedS ys = true → H p = none → Q (.ref p) (upd H p (.lst (ys.map V.str)))
theorem call_sortX (hc : X.calm = true) : CallR X (.builtin "sorted") (rSortX X.prog X.w) := by
  intro pins s σ H xs us Q I r q
  obtain ⟨a, l, rfl, hA, h64, q⟩ := q
  obtain ⟨u, rfl, ru⟩ := vals1 r
  cases (show u = Value.ref a from ru)
  obtain ⟨⟨es, ep, t⟩, ho, F, nd, hb, hr, hl⟩ := (show SetTx X.prog X.w s.heap a l from (I.hok a _ hA).1)
  have es1 : es.size = l.length := F.sz
  refine Calls.call_function_entry PyProof.Rows.kind_sorted PyProof.Rows.plain_sorted PyProof.Rows.entry_sorted (PyProof.Rows.args_sorted1 _) ?_
  unfold Builtin.«sorted»
  refine wpAny_bind (m := checkCount "sorted" 1 1 _) (wpAny_pure ?_)
  refine wpAny_bind (collect_set (A := X.A.in1) (I.ok.hd hc) ⟨_, ho, rfl, rfl⟩ F.fit (by rw [es1]; exact hb) hr hl (fun s1 vs k1 hz g1 o1 pm => ?_))
  have el : ∀ e ∈ es.toList, ∃ k t, e.2 = Value.str k t := by
    intro e he
    obtain ⟨⟨k, hk, _⟩, _⟩ := F.el e he
    obtain ⟨t, ht⟩ := Value.isStrOf_shape (x := k) (v := e.2) hk
    exact ⟨k, t, ht⟩
  have hS : StrsAre vs (vs.map txOf) := strs_of fun v hv => by
    obtain ⟨e, he, rfl⟩ := List.mem_map.mp (pm.mem_iff.mp hv)
    exact el e he
  have pk : (vs.map txOf).Perm l := by
    refine perm_of_nodup nd (fun x hx => ?_) ?_
    · obtain ⟨e, he, hk⟩ := (F.mem x).mp hx
      obtain ⟨t, ht⟩ := Value.isStrOf_shape (x := x) (v := e.2) hk
      refine List.mem_map.mpr ⟨e.2, pm.mem_iff.mpr (List.mem_map.mpr ⟨e, he, rfl⟩), ?_⟩
      rw [ht]; rfl
    · rw [List.length_map, pm.length_eq, List.length_map, Array.length_toList, es1]
      exact Nat.le_refl _
  have vl : vs.length < 64 := by
    have := pk.length_eq
    rw [List.length_map] at this
    omega
  have I1 : Inv X pins σ H s1 := I.call' (ch := []) o1 (Un.kept k1) (I.hok.kept k1) (by rw [g1]; exact I.bare) (fun _ z => nomatch z)
  refine wpAny_bind (wpAny_newList ?_ (Nat.le_of_lt (Nat.lt_trans vl (by decide))))
  have hoL : (s1.heap.push (seqObj "list" vs.toArray 0)).get? s1.heap.objs.size = some (seqObj "list" vs.toArray 0) := Heap.get?_push_size _ rfl
  show wpAny _ _ _ _ _ { s1 with heap := s1.heap.push (seqObj "list" vs.toArray 0) }
  refine wpAny_bind (wpAny_holding (wpAny_call_entry PyProof.Rows.slot_list_sort ⟨_, hoL, rfl⟩ PyProof.Rows.entry_list_sort
    (list_sort_treeK strKind_oneLt (s := { s1 with heap := s1.heap.push (seqObj "list" vs.toArray 0) }) hoL hS.keysOf (fun v₁ v₂ rest e => keyKind_strs (by rw [← e]; exact hS)) vl (fun st' hp hs => ⟨_, rfl, ?_⟩))
    (PyProof.Rows.args_list_sort _)))
  obtain ⟨ys, y1, y2, y3⟩ := sorted_out_str hS hp hs
  obtain ⟨c, hcc⟩ := PyProof.Rows.sortedHeap_at (vs := vs) (out := (arrOf st').map (·.2)) hoL
  have yl : (ys.map V.str).length ≤ sizeLine := by
    rw [List.length_map, y2.length_eq, List.length_map]
    exact Nat.le_of_lt (Nat.lt_trans vl (by decide))
  refine wpAny_pure ⟨_, rfl, .ref s1.heap.objs.size, upd H s1.heap.objs.size (.lst (ys.map V.str)), I1.laid (t' := s1.toks) (fun b o e => ?_) (Nat.le_refl _)
    (show ObjOk X.prog X.w _ _ _ (.lst (ys.map V.str)) from ⟨yl, ((arrOf st').map (·.2)).toList, c, vals_of_strs y1, by rw [Array.toArray_toList]; exact hcc⟩), rfl, q ys _ (y2.trans pk) y3 (I1.hok.fresh (Nat.le_refl _))⟩
  have lt : b < s1.heap.objs.size := Heap.lt_size e
  rw [PyProof.Rows.sortedHeap_old (Nat.ne_of_lt lt) (by rw [size_push']; exact Nat.lt_succ_of_lt lt)]
  exact Heap.get?_push_of_some _ e
end
end Rl
end
section
set_option maxHeartbeats 2000000
namespace Rl
open PySem PySem.Spec PyProof.Rows L2
theorem perm_map_inv {α β : Type} {f : α → β} : ∀ {m : List α} {l : List β}, l.Perm (m.map f) → ∃ m' : List α, m'.Perm m ∧ l = m'.map f
  | [], l, h => ⟨[], .nil, List.perm_nil.mp h⟩
  | x :: r, l, h => by
    have hx : f x ∈ l := h.mem_iff.mpr (by rw [List.map_cons]; exact List.mem_cons_self)
    obtain ⟨l1, l2, rfl⟩ := List.append_of_mem hx
    have h2 : (l1 ++ l2).Perm (r.map f) := (List.perm_middle.symm.trans h).cons_inv
    obtain ⟨m', pm, e⟩ := perm_map_inv h2
    obtain ⟨a, b, rfl, rfl, rfl⟩ := List.append_eq_map_iff.mp e
    exact ⟨a ++ x :: b, List.perm_middle.trans (pm.cons x), by rw [List.map_append, List.map_cons]⟩
/-- a pair of texts as a key of a dict -/
def pk (p : Str × Str) : List Key := [Sum.inr p.1, Sum.inr p.2]
def kx (p : Str × Str) : List (Int ⊕ List Nat) := [Sum.inr p.1.cps.toList, Sum.inr p.2.cps.toList]
/-- as Python sorts them -/
def ltP (p q : Str × Str) : Bool := lexLt itemOrd (kx p) (kx q)
section
variable {prog : Program} {w : World} {d : Addr} {es : Array DictEntry} {ep : Nat}
theorem rawSrc (lo : (d == sysModules) = false) : PySem.W.KdlSrc prog w "dict" d d es.size (fun i v => ∃ hi : i < es.size, v = es[i].key) (fun h => h.DictRaw d es ep) where
  type := fun _ hm => hm.typeIs
  there := fun _ hm => ⟨Heap.lt_size hm.choose_spec.1, Heap.lt_size hm.choose_spec.1⟩
  keep := fun _ _ hm hk => hm.at fun o e => hk d (.inl rfl) o e
  notList := by decide
  notTuple := by decide
  hint := fun _ _ _ _ hm hq => PySem.W.kdl_hint_dict hm.typeIs hq
  iter := fun A s hh hm => ⟨_, _, (fun _ _ hq => wpAny_pyIter_dict_raw lo hm hq), Walks.rawKeys hh _ d (Nat.ne_of_lt (Heap.lt_size hm.choose_spec.1)) es ep,
    ⟨⟨_, Heap.get?_push_size _ rfl, rfl, rfl⟩, hm.at fun o e => Heap.get?_push_of_some _ e⟩⟩
end
section
variable {X : Cx}
def rSortD : List V → Hp → VK → Prop := fun vs H Q => ∃ (a : Addr) (kvs : List (List Key × V)) (ps : List (Str × Str)), vs = [.ref a] ∧ Rd H a (.dT kvs) ∧ kvs.map (·.1) = ps.map pk ∧ ps.length ≤ 1000 ∧
  ∀ (qs : List (Addr × (Str × Str))) (p : Addr), (qs.map (·.2)).Perm ps → (qs.map (·.2)).Pairwise (fun x y => ltP y x = false) → (∀ q ∈ qs, H q.1 = some (.tup [.str q.2.1, .str q.2.2])) → H p = none →
    Q (.ref p) (upd H p (.lst (qs.map fun q => V.ref q.1)))
theorem pk_inj {p q : Str × Str} (h : pk p = pk q) : p = q := by
  obtain ⟨a, b⟩ := p
  obtain ⟨c, e⟩ := q
  simp only [pk, List.cons.injEq, Sum.inr.injEq, and_true] at h
  rw [h.1, h.2]
/-- the entries, told by their addresses and pairs -/
theorem kt_pairs {H : Hp} : ∀ {kvs : List (List Key × V)} {xs : List (List Key × Addr × Value)} {ps : List (Str × Str)}, Paired (fun (p : List Key × V) (q : List Key × Addr × Value) => p.1 = q.1 ∧ H q.2.1 = some (.tup (p.1.map kV)) ∧ RelV p.2 q.2.2) kvs xs →
    kvs.map (·.1) = ps.map pk → ∃ qs : List (Addr × (Str × Str)), qs.map (·.2) = ps ∧ xs.map (fun y => y.2.1) = qs.map (·.1) ∧ ∀ q ∈ qs, H q.1 = some (.tup [.str q.2.1, .str q.2.2])
  | [], _, ps, .nil, e => by
    have : ps = [] := List.map_eq_nil_iff.mp e.symm
    subst this
    exact ⟨[], rfl, rfl, fun q h => (List.not_mem_nil h).elim⟩
  | (k, v) :: r, _, [], .cons _ _, e => by simp at e
  | (k, v) :: r, _, p :: ps, .cons (b := y) h t, e => by
    rw [List.map_cons, List.map_cons] at e
    injection e with e1 e2
    obtain ⟨qs, h1, h2, h3⟩ := kt_pairs t e2
    have e1' : k = pk p := e1
    refine ⟨(y.2.1, p) :: qs, by rw [List.map_cons, h1], by rw [List.map_cons, List.map_cons, h2], fun q hq => ?_⟩
    rcases List.mem_cons.mp hq with rfl | hq
    · have := h.2.1
      rw [e1'] at this
      exact this
    · exact h3 q hq
theorem call_sortD (hc : X.calm = true) : CallR X (.builtin "sorted") rSortD := by
  intro pins s σ H xs us Q I r q
  obtain ⟨a, kvs, ps, rfl, hA, hks, hlen, q⟩ := q
  obtain ⟨u, rfl, ru⟩ := vals1 r
  cases (show u = Value.ref a from ru)
  obtain ⟨z, lo, ws, rel, dd⟩ := dt_rd I.hok hA
  obtain ⟨qs, hq1, hq2, hq3⟩ := kt_pairs rel hks
  obtain ⟨es, ep, raw, esz, hes⟩ := dd.raw
  have wl : ws.length = ps.length := by
    have := congrArg List.length hq2
    have h2 := congrArg List.length hq1
    simp only [List.length_map] at this h2
    omega
  have ql : qs.length = ps.length := by
    have h2 := congrArg List.length hq1
    simpa only [List.length_map] using h2
  refine Calls.call_function_entry PyProof.Rows.kind_sorted PyProof.Rows.plain_sorted PyProof.Rows.entry_sorted (PyProof.Rows.args_sorted1 _) ?_
  unfold Builtin.«sorted»
  refine wpAny_bind (m := checkCount "sorted" 1 1 _) (wpAny_pure ?_)
  refine wpAny_bind (PySem.W.kdu_collect (A := X.A.in1) (rawSrc lo) (I.ok.hd hc) raw (by rw [esz, wl]; exact Nat.le_of_lt (small1000 hlen)) (fun h' tk acc hk hacc => ?_))
  have vE : acc.toList = qs.map (fun q => Value.ref q.1) := by
    apply List.ext_getElem?
    intro i
    by_cases hi : i < acc.size
    · obtain ⟨hi2, e⟩ := hacc.2 i acc[i] (Array.getElem?_eq_getElem hi)
      obtain ⟨y, y1, y2, _⟩ := hes i hi2
      have e3 : (ws.map (fun y => y.2.1))[i]? = some y.2.1 := by rw [List.getElem?_map, y1]; rfl
      rw [hq2, List.getElem?_map] at e3
      rw [Array.getElem?_toList, Array.getElem?_eq_getElem hi, e, y2, List.getElem?_map]
      cases h5 : qs[i]? with
      | none => rw [h5] at e3; cases e3
      | some q5 =>
        rw [h5] at e3
        have : q5.1 = y.2.1 := Option.some.inj e3
        show some (Value.ref y.2.1) = some (Value.ref q5.1)
        rw [this]
    · rw [List.getElem?_eq_none (by rw [Array.length_toList]; omega), List.getElem?_eq_none (by rw [List.length_map]; have := hacc.1; omega)]
  rw [vE]
  have I1 : Inv X pins σ H { s with heap := h', toks := tk } := I.kept hk
  have vl : (qs.map (fun q => Value.ref q.1)).length ≤ sizeLine := by rw [List.length_map, ql]; exact Nat.le_of_lt (small1000 hlen)
  refine wpAny_bind (wpAny_newList ?_ vl)
  have hoL : (h'.push (seqObj "list" (qs.map (fun q => Value.ref q.1)).toArray 0)).get? h'.objs.size = some (seqObj "list" (qs.map (fun q => Value.ref q.1)).toArray 0) := Heap.get?_push_size _ rfl
  show wpAny _ _ _ _ _ { s with heap := h'.push (seqObj "list" (qs.map (fun q => Value.ref q.1)).toArray 0), toks := tk }
  have tup : ∀ q ∈ qs, ∃ o n t1 t2, (h'.push (seqObj "list" (qs.map (fun q => Value.ref q.1)).toArray 0)).get? q.1 = some o ∧ o.cls = .type "tuple" ∧ o.data = .seq #[.str q.2.1 t1, .str q.2.2 t2] n := by
    intro q hq
    obtain ⟨_, its, rv, o, ho, hcl, n, hd⟩ := (show ObjOk X.prog X.w H h' q.1 (.tup [.str q.2.1, .str q.2.2]) from I1.hok q.1 _ (hq3 q hq))
    cases rv with
    | cons r1 r2 =>
      cases r2 with
      | cons r2 r3 =>
        cases r3
        obtain ⟨t1, rfl⟩ := r1
        obtain ⟨t2, rfl⟩ := r2
        exact ⟨o, n, t1, t2, Heap.get?_push_of_some _ ho, hcl, hd⟩
  have key : ∀ q ∈ qs, G.tupKeyC (h'.push (seqObj "list" (qs.map (fun q => Value.ref q.1)).toArray 0)) (fun _ => true) (.ref q.1) = some (kx q.2) := by
    intro q hq
    obtain ⟨o, n, t1, t2, ho, hcl, hd⟩ := tup q hq
    unfold G.tupKeyC G.isTupObj tupKey
    simp only [ho, hcl, hd]
    rfl
  have tof : ∀ {l : List (Addr × (Str × Str))}, (∀ q ∈ l, q ∈ qs) → ∃ fs, TupsOf (h'.push (seqObj "list" (qs.map (fun q => Value.ref q.1)).toArray 0)) (fun _ => true) (l.map (fun q => Value.ref q.1)) fs := by
    intro l
    induction l with
    | nil => intro _; exact ⟨[], .nil⟩
    | cons q r ih =>
      intro h
      obtain ⟨fs, hf⟩ := ih fun x hx => h x (List.mem_cons_of_mem _ hx)
      obtain ⟨o, n, t1, t2, ho, hcl, hd⟩ := tup q (h q List.mem_cons_self)
      exact ⟨.str q.2.1 t1 :: fs, .cons ⟨q.1, o, _, n, rfl, ho, hcl, hd, rfl, fun z => Bool.noConfusion z, fun _ => ⟨_, _, rfl⟩⟩ hf⟩
  obtain ⟨fs, hfs⟩ := tof (l := qs) fun _ h => h
  have hkk : ∀ v ∈ qs.map (fun q => Value.ref q.1), ∃ l, G.tupKeyC (h'.push (seqObj "list" (qs.map (fun q => Value.ref q.1)).toArray 0)) (fun _ => true) v = some l := by
    intro v hv
    obtain ⟨q, hq, rfl⟩ := List.mem_map.mp hv
    exact ⟨_, key q hq⟩
  refine wpAny_bind (wpAny_holding (wpAny_call_entry PyProof.Rows.slot_list_sort ⟨_, hoL, rfl⟩ PyProof.Rows.entry_list_sort
    (G.list_sort_tups (s := { s with heap := h'.push (seqObj "list" (qs.map (fun q => Value.ref q.1)).toArray 0), toks := tk }) (shape := fun _ => true) (fs := fs) hoL hfs hkk vl (fun st' hp hs _ => ⟨_, rfl, ?_⟩)) (PyProof.Rows.args_list_sort _)))
  obtain ⟨c, hcc⟩ := PyProof.Rows.sortedHeap_at (vs := qs.map (fun q => Value.ref q.1)) (out := (arrOf st').map (·.2)) hoL
  have hpl : (arrOf st').toList.Perm (qs.map (fun q => (Value.ref q.1, Value.ref q.1))) := by
    have h1 := hp
    have h2 : (pairsOf (qs.map (fun q => Value.ref q.1))).toList = qs.map (fun q => (Value.ref q.1, Value.ref q.1)) := by
      rw [pairsOf_toList, List.zip_map', ]
    rw [← h2]
    exact h1.toList
  obtain ⟨L, pL, eL⟩ := perm_map_inv hpl
  have hout : ((arrOf st').map (·.2)).toList = L.map (fun q => Value.ref q.1) := by
    rw [Array.toList_map, eL, List.map_map]; rfl
  have kOf := G.tupKeys hkk
  have srt := keyLe_of_sorted (kOf.perm hp) (by rw [hp.size_eq]; exact hs)
  rw [eL] at srt
  have memL : ∀ q ∈ L, q ∈ qs := fun q hq => pL.mem_iff.mp hq
  have sL : (L.map (·.2)).Pairwise (fun x y => ltP y x = false) := by
    rw [List.pairwise_map] at srt ⊢
    refine srt.imp_of_mem ?_
    intro x y hx hy h
    obtain ⟨a1, b1, ka, kb, le⟩ := h
    have e1 : some a1 = some (kx x.2) := ka.symm.trans (key x (memL x hx))
    have e2 : some b1 = some (kx y.2) := kb.symm.trans (key y (memL y hy))
    rw [Option.some.inj e1, Option.some.inj e2] at le
    exact le
  have ll : (L.map (fun q => V.ref q.1)).length ≤ sizeLine := by rw [List.length_map, pL.length_eq, ql]; exact Nat.le_of_lt (small1000 hlen)
  have vals : ∀ l : List (Addr × (Str × Str)), Vals (l.map (fun q => V.ref q.1)) (l.map (fun q => Value.ref q.1)) := by
    intro l
    induction l with
    | nil => exact .nil
    | cons x r ih => exact .cons rfl ih
  refine wpAny_pure ⟨_, rfl, .ref h'.objs.size, upd H h'.objs.size (.lst (L.map fun q => V.ref q.1)), I1.laid (t' := tk) (fun b o e => ?_) (Nat.le_refl _)
    (show ObjOk X.prog X.w _ _ _ (.lst (L.map fun q => V.ref q.1)) from ⟨ll, L.map (fun q => Value.ref q.1), c, vals L, by rw [← hout, Array.toArray_toList]; exact hcc⟩), rfl,
    q L _ (by rw [← hq1]; exact pL.map _) sL (fun x hx => hq3 x (memL x hx)) (I1.hok.fresh (Nat.le_refl _))⟩
  have lt : b < h'.objs.size := Heap.lt_size e
  rw [PyProof.Rows.sortedHeap_old (Nat.ne_of_lt lt) (by rw [size_push']; exact Nat.lt_succ_of_lt lt)]
  exact Heap.get?_push_of_some _ e
end
end Rl
end
section
namespace Nl
open PySem PySem.Spec PyProof.Rows L2
/-! ### the text -/
def tp (i : Nat) : Stmt := PySem.Challenge.pw_backwater_k28_stands_alike.main.body.getD i (.Pass ⟨0, 0, 0, 0⟩)
abbrev s_wall : Stmt := tp 0
abbrev sWhole : Stmt := tp 18
abbrev s_figures : Stmt := tp 19
abbrev sWrong : Stmt := tp 21
abbrev sForAll : Stmt := tp 22
abbrev s_shown : Stmt := tp 23
abbrev mStand_init : Stmt := inClass (tp 24) 0
abbrev mStand_net : Stmt := inClass (tp 24) 1
abbrev mStand_poured : Stmt := inClass (tp 24) 2
abbrev mStand_count : Stmt := inClass (tp 24) 3
abbrev mStand_water : Stmt := inClass (tp 24) 4
abbrev mStand_pours : Stmt := inClass (tp 24) 5
abbrev mStand_counts : Stmt := inClass (tp 24) 6
abbrev mStand_waters : Stmt := inClass (tp 24) 7
abbrev mStand_eq : Stmt := inClass (tp 24) 8
abbrev mStand_repr : Stmt := inClass (tp 24) 9
abbrev sName : Stmt := tp 30
abbrev sMeas : Stmt := tp 31
abbrev sPondOf : Stmt := tp 32
abbrev sPairOf : Stmt := tp 33
abbrev sGoes : Stmt := tp 34
abbrev sComes : Stmt := tp 35
abbrev sPipesOut : Stmt := tp 36
abbrev sPipesIn : Stmt := tp 37
abbrev sSteps : Stmt := tp 38
abbrev sCkPonds : Stmt := tp 39
abbrev sCkPipes : Stmt := tp 40
abbrev sCkSides : Stmt := tp 41
abbrev sCkWays : Stmt := tp 42
abbrev mNet_init : Stmt := inClass (tp 43) 0
abbrev mNet_has_pond : Stmt := inClass (tp 43) 1
abbrev mNet_check_pond : Stmt := inClass (tp 43) 2
abbrev mNet_ponds : Stmt := inClass (tp 43) 3
abbrev mNet_brim : Stmt := inClass (tp 43) 4
abbrev mNet_width : Stmt := inClass (tp 43) 6
abbrev mNet_ins : Stmt := inClass (tp 43) 8
abbrev mNet_brims : Stmt := inClass (tp 43) 9
abbrev mNet_pipes : Stmt := inClass (tp 43) 10
abbrev mNet_eq : Stmt := inClass (tp 43) 11
abbrev mNet_len : Stmt := inClass (tp 43) 12
abbrev mNet_repr : Stmt := inClass (tp 43) 13
abbrev sPot : Stmt := tp 45
abbrev sDraw : Stmt := tp 46
abbrev sLName : Stmt := tp 47
abbrev sClosed : Stmt := tp 48
abbrev sRoom : Stmt := tp 49
abbrev sNet : Stmt := tp 50
abbrev sSome : Stmt := tp 51
abbrev s_law_sorted : Stmt := tp 52
abbrev s_law_all : Stmt := tp 53
abbrev s_law_text : Stmt := tp 54
abbrev s_law_otherwise : Stmt := tp 55
abbrev sMore : Stmt := tp 56
abbrev sIsTold : Stmt := tp 57
abbrev s_law_unlike : Stmt := tp 58
abbrev s_law_others : Stmt := tp 59
abbrev sLaw : Stmt := tp 60
abbrev xBadName : Stmt := inClass (tp 6) 0
abbrev xTooMany : Stmt := inClass (tp 7) 0
abbrev xBadBrim : Stmt := inClass (tp 8) 0
abbrev xBadPipe : Stmt := inClass (tp 9) 0
abbrev xTooWide : Stmt := inClass (tp 10) 0
abbrev xClosed : Stmt := inClass (tp 11) 0
abbrev xNoPond : Stmt := inClass (tp 12) 0
abbrev xBadPoured : Stmt := inClass (tp 13) 0
abbrev xBadCount : Stmt := inClass (tp 14) 0
end Nl
end
section
namespace Nl
open PySem PySem.Spec PyProof.Rows L2 Nt
/-! ### heaps -/
def Kp (p : Addr) (H H' : Hp) : Prop := ∀ b o, b ≠ p → H b = some o → H' b = some o
theorem Kp.trans {p : Addr} {H H1 H2 : Hp} (x : Kp p H H1) (y : Kp p H1 H2) : Kp p H H2 := fun b o n e => y b o n (x b o n e)
theorem Kp.new {p q : Addr} {H : Hp} {o : HO} (h : H q = none) : Kp p H (upd H q o) := fun b u _ e => by
  rw [upd_ne (ne_of_none e h)]; exact e
theorem Kp.here {p : Addr} {H : Hp} {o : HO} : Kp p H (upd H p o) := fun b u n e => by
  rw [upd_ne n]; exact e
theorem Kp.of_same {p : Addr} {H H' : Hp} (h : Same H H') : Kp p H H' := fun b o _ e => h b o e
theorem same_new {H : Hp} {p : Addr} {o : HO} (h : H p = none) : Same H (upd H p o) := fun b x e => by
  rw [upd_ne (ne_of_none e h)]; exact e
/-- behind a lock: all is as it was -/
theorem same_lock {H H1 : Hp} {d : Addr} {u : HO} {od : Obj} (hd : H d = some u) (s : Same (upd H d (.frz od u)) H1) : H1 d = some (.frz od u) ∧ Same H (upd H1 d u) := by
  refine ⟨s d _ upd_same, fun b o e => ?_⟩
  by_cases hb : b = d
  · subst hb
    rw [hd] at e
    rw [upd_same]; exact e
  · rw [upd_ne hb]
    exact s b o (by rw [upd_ne hb]; exact e)
/-! ### the two dicts -/
def bk (B : Br) : List (Key × V) := B.map fun p => (Sum.inr p.1, V.int p.2)
def pt (P : Pi) : List (List Key × V) := P.map fun p => (Rl.pk p.1, V.int p.2)
def getP (P : Pi) (q : Str × Str) : Option Int := (P.find? fun p => decide (p.1 = q)).map (·.2)
theorem valV_bk (B : Br) (x : Str) : valV (bk B) (Sum.inr x : Key) = (getB B x).map V.int := by
  induction B with
  | nil => rfl
  | cons p r ih =>
    unfold valV getB bk
    rw [List.map_cons, List.find?_cons, List.find?_cons]
    by_cases h : p.1 = x
    · have e1 : decide ((Sum.inr p.1 : Key) = Sum.inr x) = true := decide_eq_true (by rw [h])
      rw [show decide (((Sum.inr p.1 : Key), V.int p.2).1 = Sum.inr x) = true from e1, show decide (p.1 = x) = true from decide_eq_true h]; rfl
    · have e1 : decide ((Sum.inr p.1 : Key) = Sum.inr x) = false := decide_eq_false (fun z => h (Sum.inr.inj z))
      rw [show decide (((Sum.inr p.1 : Key), V.int p.2).1 = Sum.inr x) = false from e1, show decide (p.1 = x) = false from decide_eq_false h]
      exact ih
theorem valV_pt (P : Pi) (q : Str × Str) : valV (pt P) (Rl.pk q) = (getP P q).map V.int := by
  induction P with
  | nil => rfl
  | cons p r ih =>
    unfold valV getP pt
    rw [List.map_cons, List.find?_cons, List.find?_cons]
    by_cases h : p.1 = q
    · have e1 : decide (Rl.pk p.1 = Rl.pk q) = true := decide_eq_true (by rw [h])
      rw [show decide ((Rl.pk p.1, V.int p.2).1 = Rl.pk q) = true from e1, show decide (p.1 = q) = true from decide_eq_true h]; rfl
    · have e1 : decide (Rl.pk p.1 = Rl.pk q) = false := decide_eq_false (fun z => h (Rl.pk_inj z))
      rw [show decide ((Rl.pk p.1, V.int p.2).1 = Rl.pk q) = false from e1, show decide (p.1 = q) = false from decide_eq_false h]
      exact ih
theorem getP_of_mem {P : Pi} (nd : (P.map Prod.fst).Nodup) {q : Str × Str} {w : Int} (h : (q, w) ∈ P) : getP P q = some w := by
  induction P with
  | nil => exact (List.not_mem_nil h).elim
  | cons p r ih =>
    obtain ⟨n1, n2⟩ := List.nodup_cons.mp (show (p.1 :: r.map Prod.fst).Nodup from nd)
    unfold getP
    rw [List.find?_cons]
    rcases List.mem_cons.mp h with e | e
    · rw [← e]; simp
    · have ne : p.1 ≠ q := fun z => n1 (by rw [z]; exact List.mem_map.mpr ⟨_, e, rfl⟩)
      rw [decide_eq_false ne]
      exact ih n2 e
/-! ### texts -/
def Sm (n : Nat) (z : Str) : Prop := z.length ≤ n ∧ ∀ c ∈ z.cps.toList, c < 1000
theorem len_list (z : Str) : z.length = z.cps.toList.length := by
  show z.cps.size = _
  rw [Array.length_toList]
def abc : Str := "abcdefghijklmnopqrstuvwxyz"
def nameB (z : Str) : Bool := decide (1 ≤ z.length ∧ z.length ≤ 8) && z.cps.toList.all fun c => decide (c ∈ abc.cps.toList)
def Nm (z : Str) : Prop := nameB z = true
theorem abc_small : ∀ c ∈ abc.cps.toList, c < 1000 := by decide +kernel
theorem Nm.iff {z : Str} : Nm z ↔ (1 ≤ z.length ∧ z.length ≤ 8) ∧ ∀ c ∈ z.cps.toList, c ∈ abc.cps.toList := by
  unfold Nm nameB
  rw [Bool.and_eq_true, decide_eq_true_iff, List.all_eq_true]
  simp only [decide_eq_true_iff]
theorem Nm.sm {z : Str} (h : Nm z) : Sm 8 z := ⟨(Nm.iff.mp h).1.2, fun c hc => abc_small c ((Nm.iff.mp h).2 c hc)⟩
theorem Sm.mono {m n : Nat} {z : Str} (h : Sm m z) (l : m ≤ n) : Sm n z := ⟨Nat.le_trans h.1 l, h.2⟩
theorem Sm.fits {n : Nat} {z : Str} (h : Sm n z) (l : n ≤ 1000) : z.length ≤ sizeLine := Nat.le_of_lt (small1000 (Nat.le_trans h.1 l))
theorem line1000 {n : Nat} (h : n ≤ 1000) : n ≤ sizeLine := Nat.le_of_lt (small1000 h)
theorem decStr (a b : Str) : decide (V.str a = V.str b) = decide (a = b) := by
  by_cases h : a = b
  · rw [decide_eq_true h, decide_eq_true (by rw [h])]
  · rw [decide_eq_false h, decide_eq_false (fun z => h (V.str.inj z))]
section
variable {P : Program} {w : World} {K : PySem.W.Frag} {mg : Str → Option Value} {base : Heap}
/-! ### is_whole, is_name, is_measure -/
theorem scWhole : FnScope ["thing", "least"] ["thing", "least"] (defScope sWhole) := ⟨rfl, rfl, rfl, by decide +kernel, rfl, by decide +kernel, by decide +kernel⟩
def spWhole : Sp := fun vs H Q _ => ∃ i j : Int, vs = [.int i, .int j] ∧ Q (.bl (decide (i ≥ j))) H
theorem ok_whole {f : Addr} {fd : FuncData} {k : Nat} (F : Fun K "is_whole" "is_whole" sWhole f fd) (mi : mg "isinstance" = none) (mt : mg "int" = none) (mb : mg "bool" = none) :
    FnOk P w K mg base CX0 (k + 1) f fd ["thing", "least"] spWhole := by
  refine F.ok scWhole (fun vs H Q E h => ?_) (fun cdv A outer s H vs Q E hr h => ?_)
  · obtain ⟨i, j, rfl, _⟩ := h
    rfl
  · obtain ⟨i, j, rfl, q⟩ := h
    refine ⟨_, pss_one (ps_ret (pe_and (pe_callB call_isi (by rfl) mi (by decide +kernel) (pa_cons (pv 0) (pa_cons (pe_bltn (v := .ty "int") (by rfl) mt (by decide +kernel) rfl) pa_nil)))
      (pe_and (pe_not (pe_callB call_isi (by rfl) mi (by decide +kernel) (pa_cons (pv 0) (pa_cons (pe_bltn (v := .ty "bool") (by rfl) mb (by decide +kernel) rfl) pa_nil)))) (pe_one (pe_cmpR op_ge (pv 0) (pv 1) (nomark _)))))), ?_⟩
    refine ⟨.int i, rfl, .int i, .ty "int", .type "int", .type "int", true, rfl, .ty _, .base (.int i), kit_ty (by decide +kernel), true, rfl, iteT ?_⟩
    refine ⟨.int i, rfl, .int i, .ty "bool", .type "int", .type "bool", false, rfl, .ty _, .base (.int i), kit_ty (by decide +kernel), false, rfl, true, rfl, iteT ?_⟩
    exact ⟨.int i, rfl, .int j, rfl, i, j, rfl, rfl, q⟩
theorem scName : FnScope ["thing", "letter"] ["thing"] (defScope sName) := ⟨rfl, rfl, rfl, by decide +kernel, rfl, by decide +kernel, by decide +kernel⟩
def spName : Sp := fun vs H Q _ => ∃ z : Str, vs = [.str z] ∧ Sm 25 z ∧ ∀ H', Same H H' → Q (.bl (nameB z)) H'
theorem ok_name {f : Addr} {fd : FuncData} {k : Nat} {tm tl : Tok} (F : Fun K "is_name" "is_name" sName f fd) (mi : mg "isinstance" = none) (ms : mg "str" = none) (ml : mg "len" = none) (ma : mg "all" = none)
    (gM : mg "MOST_LETTERS" = some (.int 8 tm)) (gL : mg "LETTERS" = some (.str abc tl)) : FnOk P w K mg base CX0 (k + 1) f fd ["thing"] spName := by
  refine F.ok scName (fun vs H Q E h => ?_) (fun cdv A outer s H vs Q E hr h => ?_)
  · obtain ⟨z, rfl, _⟩ := h
    rfl
  · obtain ⟨z, rfl, hz, q⟩ := h
    refine ⟨_, pss_cons (ps_if (PW.pt (pw_or (pt_not (pt_val (pe_callB call_isi (by rfl) mi (by decide +kernel) (pa_cons (pv 0) (pa_cons (pe_bltn (v := .ty "str") (by rfl) ms (by decide +kernel) rfl) pa_nil)))))
        (pw_or1 (pt_not (pt_chain op_le op_le pe_int (pe_callB call_len_str (by rfl) ml PySem.boot_len (pa_cons (pv 0) pa_nil)) (pe_glob (v := .int 8) rfl gM ⟨_, rfl⟩)))))) (pss_one (ps_ret pe_bl)) pss_nil)
      (pss_one (ps_ret (pe_callB (cr_all rfl) (by rfl) ma (by decide +kernel) (pa_cons (pe_lc (own := [("letter", 1)]) (g := gName 1) (tt := tYes) rfl scName.nd (pi_str (pv 0))
        (blkOk_by (N := ["thing", "letter"]) (sc := defScope sName) (by decide +kernel)) (fun _ _ _ _ _ => pg_name (i := 1) scName.nd rfl (Or.inl rfl)) (fun _ _ _ _ _ => pts_nil)
        (fun _ _ _ _ _ => pe_cmpR op_in_sign (pv 1) (pe_glob (v := .str abc) rfl gL ⟨_, rfl⟩) (by rfl))) pa_nil)))), ?_⟩
    refine ⟨.str z, rfl, .str z, .ty "str", .type "str", .type "str", true, rfl, .ty _, .base (.str z), kit_ty (by decide +kernel), true, rfl, iteF ?_⟩
    have hf := hz.fits (by decide)
    have no : ¬ (1 ≤ z.length ∧ z.length ≤ 8) → nameB z = false := fun h => by
      unfold nameB
      rw [decide_eq_false h]; rfl
    refine ⟨.str z, rfl, z, rfl, hf, 1, _, rfl, rfl, _, rfl, ite2 (fun c1 => ?_) (fun c1 => ?_)⟩
    · refine ⟨_, _, rfl, rfl, _, rfl, ite2 (fun c2 => ?_) (fun c2 => ?_)⟩
      · have c3 : ¬ ((z.length : Int) ≤ 8) := fun e => by rw [decide_eq_true e] at c2; cases c2
        have := q H (Same.refl H)
        rw [no (by omega)] at this
        exact this
      · have c1' := of_decide_eq_true c1
        have c3 : (z.length : Int) ≤ 8 := by
          by_cases e : (z.length : Int) ≤ 8
          · exact e
          · rw [decide_eq_false e] at c2; exact absurd rfl c2
        refine ⟨.str z, rfl, z, rfl, fun D nD => ?_⟩
        refine lc_it walk_str (fun i H1 => ∃ bs : List Bool, H1 D = some (.lst (bs.map V.bl)) ∧ bs = (z.cps.toList.take i).map (fun c => decide (c ∈ abc.cps.toList)) ∧ Same H H1) ?_ (fun _ _ _ _ => trivial) ?_ ?_
        · exact ⟨[], upd_same, rfl, same_new nD⟩
        · rintro i x H1 H2 hi ⟨bs, hD, hb, sm⟩ ⟨rfl, c, hc, rfl⟩
          have hc' : z.cps.toList[i]? = some c := by rw [Array.getElem?_toList]; exact hc
          refine ⟨rfl, .str ⟨#[c]⟩, rfl, c, abc, rfl, rfl, _, hD, ?_, bs ++ [decide (c ∈ abc.cps.toList)], ?_, ?_, ?_⟩
          · rw [List.length_map, hb, List.length_map, List.length_take]
            exact small1000 (by have := hz.1; rw [len_list] at this; omega)
          · rw [upd_same, List.map_append]; rfl
          · rw [hb, List.take_add_one, hc', List.map_append]; rfl
          · exact fun b o e => by
              have nb : b ≠ D := ne_of_none e nD
              rw [upd_ne nb]; exact sm b o e
        · rintro H1 ⟨bs, hD, hb, sm⟩
          refine ⟨D, bs, rfl, SqL.of hD, ?_⟩
          have e : bs.all id = nameB z := by
            unfold nameB
            rw [decide_eq_true (show 1 ≤ z.length ∧ z.length ≤ 8 by omega), hb, List.take_of_length_le (by rw [Array.length_toList]; exact Nat.le_refl _), List.all_map]
            rfl
          rw [e]
          exact q H1 sm
    · refine ⟨false, rfl, iteT ?_⟩
      have c3 : ¬ ((1 : Int) ≤ (z.length : Int)) := fun e => c1 (decide_eq_true e)
      have := q H (Same.refl H)
      rw [no (by omega)] at this
      exact this
theorem scMeas : FnScope ["thing"] ["thing"] (defScope sMeas) := ⟨rfl, rfl, rfl, by decide +kernel, rfl, by decide +kernel, by decide +kernel⟩
def spMeas : Sp := fun vs H Q _ => ∃ i : Int, vs = [.int i] ∧ 1 ≤ i ∧ i ≤ 60 ∧ Q (.bl true) H
theorem ok_meas {f fW : Addr} {fd fdW : FuncData} {tm : Tok} (F : Fun K "is_measure" "is_measure" sMeas f fd) (FW : Fun K "is_whole" "is_whole" sWhole fW fdW) (GW : FnOk P w K mg base CX0 1 fW fdW ["thing", "least"] spWhole) (bW : Binds K fdW ["thing", "least"] []) (gW : mg "is_whole" = some (.ref fW))
    (gM : mg "MOST_BRIM" = some (.int 60 tm)) : FnOk P w K mg base CX0 2 f fd ["thing"] spMeas := by
  refine F.ok scMeas (fun vs H Q E h => ?_) (fun cdv A outer s H vs Q E hr h => ?_)
  · obtain ⟨i, rfl, _⟩ := h
    rfl
  · obtain ⟨i, rfl, l1, l2, q⟩ := h
    refine ⟨_, pss_one (ps_ret (pe_and (pe_call GW hr (by rfl) gW FW.kp bW .nil pass0 (pa_cons (pv 0) (pa_cons pe_int pa_nil))) (pe_one (pe_cmpR op_le (pv 0) (pe_glob (v := .int 60) rfl gM ⟨_, rfl⟩) (nomark _))))), ?_⟩
    refine ⟨.int i, rfl, i, 1, rfl, ?_⟩
    rw [decide_eq_true (show i ≥ 1 from l1)]
    refine ⟨true, rfl, iteT ⟨.int i, rfl, i, 60, rfl, rfl, ?_⟩⟩
    show Q (.bl (decide (i ≤ 60))) H
    rw [decide_eq_true l2]
    exact q
end
end Nl
end
section
set_option maxHeartbeats 0
namespace Nl
open PySem PySem.Spec PyProof.Rows L2
/-! ### what the top leaves: facts by names -/
/-- the keyword-only default x of the def at f, if it is an object -/
def kwAt (f : Str × Option Str) (x : Str) (K : PySem.W.Frag) : Addr := match K.lookup (He.fAd K f) with
  | some ⟨_, _, .func fd, _⟩ => (match fd.kwdefaults with
    | .ref D => (match PySem.W.nsIn K D x with
      | some (some (.ref a)) => a
      | _ => 0)
    | _ => 0)
  | _ => 0
/-- the empty tuple stands there -/
def tup0 (K : PySem.W.Frag) (a : Addr) : Bool := match K.lookup a with
  | some ⟨.type c, _, .seq its _, _⟩ => decide (c = "tuple") && its.toList.isEmpty
  | _ => false
/-- one step: what the objects name -/
def nextA (g : Addr → Option Obj) (as : List Addr) : List Addr := as.flatMap fun a => match g a with
  | some o => He.refsD o
  | none => []
/-- the names that are looked up -/
def lookN : List Str := (["is_whole", "is_name", "is_measure", "is_pond_of", "is_pair_of", "goes_out", "comes_in", "steps_out", "pipes_out", "pipes_in", "check_ponds", "check_pipes", "check_sides", "check_ways", "wrong_keys", "for_all_ponds", "_law_pot", "_law_draw", "_law_name", "_law_closed", "_law_room", "_law_net", "_law_some", "_law_sorted", "_law_all", "_law_text", "_law_otherwise", "_law_more", "_law_is_told", "_law_unlike"] : List Str) ++ (["_law_others", "law", "figures", "shown", "Net", "Stand"] : List Str)
def next3 (g : Addr → Option Obj) (a1 a2 a3 : List Addr) : List Addr := mainGlobals :: (a1 ++ (a2 ++ (a3 ++ nextA g a3)))
def next2 (g : Addr → Option Obj) (a1 a2 : List Addr) : List Addr := next3 g a1 a2 (nextA g a2)
def next1 (g : Addr → Option Obj) (a1 : List Addr) : List Addr := next2 g a1 (nextA g a1)
/-- the objects that are looked at: the module's names, what they reach in three steps -/
def asN (g : Addr → Option Obj) : List Addr := next1 g (lookN.map (He.ga (He.frG g [mainGlobals])))
def d_whole : He.DefD := ⟨("is_whole", none), "is_whole", "is_whole", defArgs sWhole, defBody sWhole, defScope sWhole, [], []⟩
def d_name : He.DefD := ⟨("is_name", none), "is_name", "is_name", defArgs sName, defBody sName, defScope sName, [], []⟩
def d_meas : He.DefD := ⟨("is_measure", none), "is_measure", "is_measure", defArgs sMeas, defBody sMeas, defScope sMeas, [], []⟩
def d_pondOf : He.DefD := ⟨("is_pond_of", none), "is_pond_of", "is_pond_of", defArgs sPondOf, defBody sPondOf, defScope sPondOf, [], []⟩
def d_pairOf : He.DefD := ⟨("is_pair_of", none), "is_pair_of", "is_pair_of", defArgs sPairOf, defBody sPairOf, defScope sPairOf, [], []⟩
def d_goes : He.DefD := ⟨("goes_out", none), "goes_out", "goes_out", defArgs sGoes, defBody sGoes, defScope sGoes, [], []⟩
def d_comes : He.DefD := ⟨("comes_in", none), "comes_in", "comes_in", defArgs sComes, defBody sComes, defScope sComes, [], []⟩
def d_steps : He.DefD := ⟨("steps_out", none), "steps_out", "steps_out", defArgs sSteps, defBody sSteps, defScope sSteps, [], []⟩
def d_pOut : He.DefD := ⟨("pipes_out", none), "pipes_out", "pipes_out", defArgs sPipesOut, defBody sPipesOut, defScope sPipesOut, [], []⟩
def d_pIn : He.DefD := ⟨("pipes_in", none), "pipes_in", "pipes_in", defArgs sPipesIn, defBody sPipesIn, defScope sPipesIn, [], []⟩
def d_ckPonds : He.DefD := ⟨("check_ponds", none), "check_ponds", "check_ponds", defArgs sCkPonds, defBody sCkPonds, defScope sCkPonds, [], []⟩
def d_ckPipes : He.DefD := ⟨("check_pipes", none), "check_pipes", "check_pipes", defArgs sCkPipes, defBody sCkPipes, defScope sCkPipes, [], []⟩
def d_ckSides : He.DefD := ⟨("check_sides", none), "check_sides", "check_sides", defArgs sCkSides, defBody sCkSides, defScope sCkSides, [], []⟩
def d_ckWays : He.DefD := ⟨("check_ways", none), "check_ways", "check_ways", defArgs sCkWays, defBody sCkWays, defScope sCkWays, [], []⟩
def d_wrong : He.DefD := ⟨("wrong_keys", none), "wrong_keys", "wrong_keys", defArgs sWrong, defBody sWrong, defScope sWrong, [], []⟩
def d_forAll : He.DefD := ⟨("for_all_ponds", none), "for_all_ponds", "for_all_ponds", defArgs sForAll, defBody sForAll, defScope sForAll, [], []⟩
def d_pot : He.DefD := ⟨("_law_pot", none), "_law_pot", "_law_pot", defArgs sPot, defBody sPot, defScope sPot, [], []⟩
def d_draw : He.DefD := ⟨("_law_draw", none), "_law_draw", "_law_draw", defArgs sDraw, defBody sDraw, defScope sDraw, [], []⟩
def d_lname : He.DefD := ⟨("_law_name", none), "_law_name", "_law_name", defArgs sLName, defBody sLName, defScope sLName, [], []⟩
def d_closed : He.DefD := ⟨("_law_closed", none), "_law_closed", "_law_closed", defArgs sClosed, defBody sClosed, defScope sClosed, [], []⟩
def d_room : He.DefD := ⟨("_law_room", none), "_law_room", "_law_room", defArgs sRoom, defBody sRoom, defScope sRoom, [], []⟩
def d_lnet : He.DefD := ⟨("_law_net", none), "_law_net", "_law_net", defArgs sNet, defBody sNet, defScope sNet, [], []⟩
def d_some : He.DefD := ⟨("_law_some", none), "_law_some", "_law_some", defArgs sSome, defBody sSome, defScope sSome, [], []⟩
def d_lsorted : He.DefD := ⟨("_law_sorted", none), "_law_sorted", "_law_sorted", defArgs s_law_sorted, defBody s_law_sorted, defScope s_law_sorted, [], []⟩
def d_lall : He.DefD := ⟨("_law_all", none), "_law_all", "_law_all", defArgs s_law_all, defBody s_law_all, defScope s_law_all, [], []⟩
def d_ltext : He.DefD := ⟨("_law_text", none), "_law_text", "_law_text", defArgs s_law_text, defBody s_law_text, defScope s_law_text, [], []⟩
def d_otherw : He.DefD := ⟨("_law_otherwise", none), "_law_otherwise", "_law_otherwise", defArgs s_law_otherwise, defBody s_law_otherwise, defScope s_law_otherwise, [], []⟩
def d_lmore : He.DefD := ⟨("_law_more", none), "_law_more", "_law_more", defArgs sMore, defBody sMore, defScope sMore, [], []⟩
def d_isTold : He.DefD := ⟨("_law_is_told", none), "_law_is_told", "_law_is_told", defArgs sIsTold, defBody sIsTold, defScope sIsTold, [], []⟩
def d_unlike : He.DefD := ⟨("_law_unlike", none), "_law_unlike", "_law_unlike", defArgs s_law_unlike, defBody s_law_unlike, defScope s_law_unlike, [], []⟩
def d_others : He.DefD := ⟨("_law_others", none), "_law_others", "_law_others", defArgs s_law_others, defBody s_law_others, defScope s_law_others, [], []⟩
def d_law : He.DefD := ⟨("law", none), "law", "law", defArgs sLaw, defBody sLaw, defScope sLaw, [], []⟩
def d_fig : He.DefD := ⟨("figures", none), "figures", "figures", defArgs s_figures, defBody s_figures, defScope s_figures, [], []⟩
def d_shown : He.DefD := ⟨("shown", none), "shown", "shown", defArgs s_shown, defBody s_shown, defScope s_shown, [], []⟩
def d_has : He.DefD := ⟨("Net", some "has_pond"), "has_pond", "Net.has_pond", defArgs mNet_has_pond, defBody mNet_has_pond, defScope mNet_has_pond, [], []⟩
def d_chk : He.DefD := ⟨("Net", some "check_pond"), "check_pond", "Net.check_pond", defArgs mNet_check_pond, defBody mNet_check_pond, defScope mNet_check_pond, [], []⟩
def d_ponds : He.DefD := ⟨("Net", some "ponds"), "ponds", "Net.ponds", defArgs mNet_ponds, defBody mNet_ponds, defScope mNet_ponds, [], []⟩
def d_brim : He.DefD := ⟨("Net", some "brim"), "brim", "Net.brim", defArgs mNet_brim, defBody mNet_brim, defScope mNet_brim, [], []⟩
def d_ins : He.DefD := ⟨("Net", some "ins"), "ins", "Net.ins", defArgs mNet_ins, defBody mNet_ins, defScope mNet_ins, [], []⟩
def d_brims : He.DefD := ⟨("Net", some "brims"), "brims", "Net.brims", defArgs mNet_brims, defBody mNet_brims, defScope mNet_brims, [], []⟩
def d_pipes : He.DefD := ⟨("Net", some "pipes"), "pipes", "Net.pipes", defArgs mNet_pipes, defBody mNet_pipes, defScope mNet_pipes, [], []⟩
def d_snet : He.DefD := ⟨("Stand", some "net"), "net", "Stand.net", defArgs mStand_net, defBody mStand_net, defScope mStand_net, [], []⟩
def d_poured : He.DefD := ⟨("Stand", some "poured"), "poured", "Stand.poured", defArgs mStand_poured, defBody mStand_poured, defScope mStand_poured, [], []⟩
def d_count : He.DefD := ⟨("Stand", some "count"), "count", "Stand.count", defArgs mStand_count, defBody mStand_count, defScope mStand_count, [], []⟩
def d_water : He.DefD := ⟨("Stand", some "water"), "water", "Stand.water", defArgs mStand_water, defBody mStand_water, defScope mStand_water, [], []⟩
def d_pours : He.DefD := ⟨("Stand", some "pours"), "pours", "Stand.pours", defArgs mStand_pours, defBody mStand_pours, defScope mStand_pours, [], []⟩
def d_counts : He.DefD := ⟨("Stand", some "counts"), "counts", "Stand.counts", defArgs mStand_counts, defBody mStand_counts, defScope mStand_counts, [], []⟩
def d_waters : He.DefD := ⟨("Stand", some "waters"), "waters", "Stand.waters", defArgs mStand_waters, defBody mStand_waters, defScope mStand_waters, [], []⟩
def d_nEq : He.DefD := ⟨("Net", some "__eq__"), "__eq__", "Net.__eq__", defArgs mNet_eq, defBody mNet_eq, defScope mNet_eq, [], []⟩
def d_sEq : He.DefD := ⟨("Stand", some "__eq__"), "__eq__", "Stand.__eq__", defArgs mStand_eq, defBody mStand_eq, defScope mStand_eq, [], []⟩
def d_nRepr : He.DefD := ⟨("Net", some "__repr__"), "__repr__", "Net.__repr__", defArgs mNet_repr, defBody mNet_repr, defScope mNet_repr, [], []⟩
def d_sRepr : He.DefD := ⟨("Stand", some "__repr__"), "__repr__", "Stand.__repr__", defArgs mStand_repr, defBody mStand_repr, defScope mStand_repr, [], []⟩
def d_nI : He.DefD := ⟨("Net", some "__init__"), "__init__", "Net.__init__", defArgs mNet_init, defBody mNet_init, defScope mNet_init, [.non], []⟩
def d_sI : He.DefD := ⟨("Stand", some "__init__"), "__init__", "Stand.__init__", defArgs mStand_init, defBody mStand_init, defScope mStand_init, [.non, .non], []⟩
def fnAll : List He.DefD := [d_whole, d_name, d_meas, d_pondOf, d_pairOf, d_goes, d_comes, d_steps, d_pOut, d_pIn, d_ckPonds, d_ckPipes, d_ckSides, d_ckWays, d_wrong, d_forAll, d_pot, d_draw, d_lname, d_closed, d_room, d_lnet, d_some, d_lsorted, d_lall, d_ltext, d_otherw, d_lmore, d_isTold, d_unlike, d_others, d_law, d_fig, d_shown, d_has, d_chk, d_ponds, d_brim, d_ins, d_brims, d_pipes, d_snet, d_poured, d_count, d_water, d_pours, d_counts, d_waters, d_nEq, d_sEq, d_nRepr, d_sRepr, d_nI, d_sI]
def faAll : List He.Fa := [.glo "is_whole", .glo "is_name", .glo "is_measure", .glo "is_pond_of", .glo "is_pair_of", .glo "goes_out", .glo "comes_in", .glo "steps_out", .glo "pipes_out", .glo "pipes_in", .glo "check_ponds", .glo "check_pipes", .glo "check_sides", .glo "check_ways", .glo "wrong_keys", .glo "for_all_ponds", .glo "_law_pot", .glo "_law_draw", .glo "_law_name", .glo "_law_closed", .glo "_law_room", .glo "_law_net", .glo "_law_some", .glo "_law_sorted", .glo "_law_all", .glo "_law_text", .glo "_law_otherwise", .glo "_law_more", .glo "_law_is_told", .glo "_law_unlike", .glo "_law_others", .glo "law", .glo "figures", .glo "shown", .meth "Net" "has_pond", .meth "Net" "check_pond", .meth "Net" "ponds", .meth "Net" "brim", .meth "Net" "ins", .meth "Net" "brims", .meth "Net" "pipes", .meth "Stand" "net", .meth "Stand" "poured", .meth "Stand" "count", .meth "Stand" "water", .meth "Stand" "pours", .meth "Stand" "counts", .meth "Stand" "waters", .meth "Net" "__eq__", .meth "Stand" "__eq__", .meth "Net" "__repr__", .meth "Stand" "__repr__", .mkr "Net", .mkr "Stand", .cls "Net", .noat "Net" "brim_by_pond", .noat "Net" "width_by_pair", .noat "Net" "outs_by_pond", .noat "Net" "ins_by_pond", .glo "Net", .cls "Stand", .noat "Stand" "own_net", .noat "Stand" "poured_by_pond", .noat "Stand" "count_by_pond", .glo "Stand", .free "isinstance", .free "int", .free "bool", .free "str", .free "len", .free "all", .free "tuple", .free "sum", .free "sorted", .free "dict", .free "list", .free "divmod", .free "max", .free "abs", .free "range", .free "min", .free "repr", .int "MOST_LETTERS" 8, .str "LETTERS" abc, .int "MOST_BRIM" 60, .int "MOST_PONDS" 12, .int "PART" 10000000000000000000000000000000000000000000000000000000000000000, .int "PART_FIGURES" 64]
def exAll (K : PySem.W.Frag) : Bool := decide (PySem.W.findIn K (.ref (He.ga K "Net")) "__class__" = some (some (.builtin "object.__class__"))) && (decide (PySem.W.findIn K (.ref (He.ga K "Stand")) "__class__" = some (some (.builtin "object.__class__"))) && (decide (PySem.W.specialIn K (.builtin "object.__class__") "__get__" = some (some (.builtin "getset_descriptor.__get__"))) && (decide (PySem.W.takesIn K (.builtin "object.__class__") = some true) && (decide (PySem.W.mroIn K (He.ga K "Net") (.type "object") = some true) && (decide (PySem.W.mroIn K (He.ga K "Stand") (.type "object") = some true) && (decide (PySem.W.subIn K (.ref (He.ga K "Net")) (.type "NoneType") = some false) && (decide (PySem.W.subIn K (.ref (He.ga K "Net")) (.type "int") = some false) && (decide (PySem.W.subIn K (.ref (He.ga K "Net")) (.type "str") = some false) && (decide (PySem.W.subIn K (.ref (He.ga K "Net")) (.type "tuple") = some false) && (decide (PySem.W.subIn K (.ref (He.ga K "Net")) (.type "dict") = some false) && (decide (PySem.W.subIn K (.ref (He.ga K "Stand")) (.type "NoneType") = some false) && (decide (PySem.W.subIn K (.ref (He.ga K "Stand")) (.type "int") = some false) && (decide (PySem.W.subIn K (.ref (He.ga K "Stand")) (.type "str") = some false) && (decide (PySem.W.subIn K (.ref (He.ga K "Stand")) (.type "tuple") = some false) && (decide (PySem.W.subIn K (.ref (He.ga K "Stand")) (.type "dict") = some false) && (PySem.W.notFirst K (He.ga K "Stand") (.type "NoneType") && (PySem.W.notFirst K (He.ga K "Stand") (.type "int") && (PySem.W.notFirst K (He.ga K "Stand") (.type "str") && (PySem.W.notFirst K (He.ga K "Stand") (.type "tuple") && (PySem.W.notFirst K (He.ga K "Stand") (.type "dict") && (decide (PySem.W.kitOne K (.type "NoneType") (.ref (He.ga K "Stand")) = some false) && (decide (PySem.W.kitOne K (.type "int") (.ref (He.ga K "Stand")) = some false) && (decide (PySem.W.kitOne K (.type "str") (.ref (He.ga K "Stand")) = some false) && (decide (PySem.W.kitOne K (.type "tuple") (.ref (He.ga K "Stand")) = some false) && (decide (PySem.W.kitOne K (.type "dict") (.ref (He.ga K "Stand")) = some false) && (PySem.W.notFirst K (He.ga K "Stand") (.ref (He.ga K "Net")) && (decide (PySem.W.kitOne K (.ref (He.ga K "Net")) (.ref (He.ga K "Stand")) = some false) && (PySem.W.notFirst K (He.ga K "Net") (.ref (He.ga K "Stand")) && (decide (PySem.W.kitOne K (.ref (He.ga K "Stand")) (.ref (He.ga K "Net")) = some false) && (true))))))))))))))))))))))))))))))
def looseAll : List Str := (["_wall", "WaterError", "NetError", "StandError", "NoNet", "BadName", "TooMany", "BadBrim", "BadPipe", "TooWide", "Closed", "NoPond", "BadPoured", "BadCount", "PART_FIGURES", "PART", "is_whole", "figures", "wrong_keys", "for_all_ponds", "shown", "Stand", "MOST_PONDS", "MOST_BRIM", "MOST_LETTERS", "LETTERS", "is_name", "is_measure", "is_pond_of", "is_pair_of"] : List Str) ++ (["goes_out", "comes_in", "pipes_out", "pipes_in", "steps_out", "check_ponds", "check_pipes", "check_sides", "check_ways", "Net", "_law_pot", "_law_draw", "_law_name", "_law_closed", "_law_room", "_law_net", "_law_some", "_law_sorted", "_law_all", "_law_text", "_law_otherwise", "_law_more", "_law_is_told", "_law_unlike", "_law_others"] : List Str)
abbrev AlN : Type := He.AlD × Bool
def obsK (K : PySem.W.Frag) : AlN := (He.obsD faAll fnAll K, exAll K)
def obsN (g : Addr → Option Obj) : AlN := obsK (He.frG g (asN g))
def hookN : PySem.W.Hook where
  α := AlN
  obs := fun s => obsN s.heap.get?
  val := fun _ => (He.valD fnAll, true)
  says := fun _ h => ∃ K : PySem.W.Frag, K.In h ∧ He.SaysD faAll fnAll K ∧ exAll K = true
  of := fun _ _ e => ⟨_, He.frG_in, congrArg (fun z : AlN => z.1) e, congrArg (fun z : AlN => z.2) e⟩
  keeps := fun _ _ _ ⟨K, hK, c⟩ k => ⟨K, PySem.W.Frag.In.keeps hK k, c⟩
def obN (s : PySem.W.SharedT) : AlN := obsN (HandSHeadRun.getT s)
theorem obN_eq (s : PySem.W.SharedT) : obN s = hookN.obs s.abs := by
  have e : HandSHeadRun.getT s = s.abs.heap.get? := funext (HandSHeadRun.getT_eq s)
  show obsN (HandSHeadRun.getT s) = obsN s.abs.heap.get?
  rw [e]
abbrev RowR : PySem.W.OpenRow := PySem.W.OpenLaw.row PySem.Challenge.rw_backwater_k28_stands_alike
theorem run (w : World) : HandSHeadRun.RunEq RowR (PySem.W.view RowR.prog [60]) hookN obN 8000 looseAll w := by
  intro os
  kernel_rfl
end Nl
end
section
set_option maxHeartbeats 4000000
namespace Rl
open PySem PySem.Spec PyProof.Rows PySem.Calls L2 NdefX
/-! ### own exceptions whose __init__ begins with super().__init__(..) -/
/-- what the written part says of the class at C and of its __init__ at f -/
structure SuX (P : Program) (K : PySem.W.Frag) (mg : Str → Option Value) (C f : Addr) (st : Stmt) (qual : Str) (fd : FuncData) (cda cc : Addr) : Prop where
  o : OexC K C
  iC : PySem.W.findIn K (.ref C) "__init__" = some (some (.ref f))
  tI : PySem.W.typeIn K (.ref f) = some (.type "function")
  su : PySem.W.ks_superIn K C C "__init__" = some (some (.builtin "ValueError.__init__"))
  ve : PySem.W.subIn K (.ref C) (.type "ValueError") = some true
  me : PySem.W.mroIn K C (.ref C) = some true
  opq : PySem.W.nsIn K cStatics "thirdparty.any" = some none
  fn : ∃ (oc : Value) (od : Option Addr) (kV doc pm : Value) (an : Option Addr) (ct : Value) (osl : Array (Option Value)),
    fd = PySem.W.fnX "__init__" qual (defArgs st) (defBody st) (defScope st) [("__class__", cc)] .none kV doc pm an (.ref cda) ct ∧ K.lookup f = some ⟨oc, od, .func fd, osl⟩
  cd : PySem.W.codeIn K (.ref cda) qual = true
  code : ∃ (c : Value) (d : Option Addr) (vs : Array Value) (sl : Array (Option Value)) (file : Str) (tf : Tok), K.lookup cda = some ⟨c, d, .fields vs, sl⟩ ∧ vs[2]? = some (.str file tf) ∧ ((P.main.file : Str) == file) = true
  cell : ∃ (c : Value) (d : Option Addr) (sl : Array (Option Value)), K.lookup cc = some ⟨c, d, .cell (some (.ref C)), sl⟩
  nosu : mg "super" = none
  top : (P.main.scope.names.lookup ("super" : Str)).isSome = false
/-- ValueError.__init__, bound to the exception at e, called -/
theorem call_veb {prog : Program} {w : World} {A : Around} {E : Value → Shared → Prop} {hp : Heap} {g : Array GenState} {d : Drawn} {tk : Nat} {os : OsState} {nm q : Str} {C N : Addr} {bs bm : List Value} {hd : Bool} {sn : List Str} {sub : List Value} {ab : Bool} {col : Option Bool}
    {dd : Option Addr} {k0 k1 k2 k3 k5 : Option Value} {u e t0 : Addr} {us : List Value} {Q : Value → Shared → Prop}
    (hC : hp.get? C = some (excClassObj nm q C N bs bm hd sn sub ab col dd k0 k1 k2 k3 k5 "ValueError.__new__")) (he : hp.get? e = some (PySem.HandSPX.excO C t0)) (hu : hp.get? u = some (PySem.W.kxs_mw "ValueError.__init__" e)) (hl : us.length ≤ sizeLine)
    (hq : ∀ h' t1, (∀ b o, b ≠ e → hp.get? b = some o → h'.get? b = some o) → h'.get? e = some (PySem.HandSPX.excO C t1) → Q .none ⟨h', g, d, tk, os⟩) : wpAny (model prog w) A (call (.ref u) us) Q E ⟨hp, g, d, tk, os⟩ := by
  refine wpAny_call (codeAny_of_tree ?_)
  show wpAny _ A.in1 (callAny (.ref u) ⟨us, []⟩) _ _ _
  simp only [callAny]
  refine wpAny_bind (wpAny_load hu ?_)
  have b1 : (Value.type "method-wrapper" == Value.type "method" || Value.type "method-wrapper" == Value.type "builtin_function_or_method" || Value.type "method-wrapper" == Value.type "method-wrapper") = true := by decide
  simp only [PySem.W.kxs_mw, b1, if_true]
  refine PySem.W.KFB.if_so (by decide) (wpAny_bind (PySem.W.check_bound_init F.excBase_ValueError.toExcCallFacts hC he rfl (wpAny_bind (wpAny_pure (wpAny_pure ?_)))))
  refine ⟨plainId_quiet F.excBase_ValueError.init.plain _, codeAny_builtin F.excBase_ValueError.initEntry ?_⟩
  exact PySem.W.exc_init_tree (cls := .ref C) (t0 := t0) (dv := none) (c2 := .none) (c3 := .none) (b4 := .bool false) he hl fun h' k e' _ => hq h' _ k e'
section
variable {CX : CXT} {P : Program} {w : World} {K : PySem.W.Frag} {mg : Str → Option Value} {base : Heap} {N ps : List Str} {k : Nat} {sp : Sp} {st : Stmt} {qual : Str} {fd : FuncData} {C f cda cc : Addr} {e : Expr} {es : List Expr} {rest : List Stmt} {p0 p1 p2 p3 p4 : Pos}
abbrev nfX (st : Stmt) (qual : Str) (cda cc : Addr) : NF := ⟨"__init__", qual, defArgs st, defBody st, defScope st, [("__class__", cc)], cda⟩
theorem exi_of (T : SuX P K mg C f st qual fd cda cc) (hst : defBody st = .Expr (.Call (.Attribute (.Call (.Name "super" p0) [] [] p1) "__init__" p2) (e :: es) [] p3) p4 :: rest)
    (hself : ((defArgs st).posonlyargs ++ (defArgs st).args).head?.map (·.arg) = some ("self" : Str)) (S : NScope N ps ["__class__"] (defScope st)) (hps : ps[0]? = some ("self" : Str)) (hks : (defScope st).names.lookup ("super" : Str) = some .globalImplicit)
    (len : ∀ vs H Q E, sp vs H Q E → vs.length = ps.length)
    (hbody : ∀ (A : Around) (outer : List Env) (s : Shared) (H : Hp) (vs : List V) (Q : VK) (E : XK), Room k (A.deeper (envF (nfX st qual cda cc) f s.heap.objs.size)) → sp vs H Q E →
      ∃ (a : Addr) (ws : List V) (ta : TA) (t : TS), vs = .ref a :: ws ∧ H a = some (exo a C none) ∧ PA (ncx CX P w K mg base N (nfX st qual cda cc) f A outer s H E) (e :: es) ta ∧ PSs (ncx CX P w K mg base N (nfX st qual cda cc) f A outer s H E) rest t ∧
        ta (startF N vs [none]) H fun us H1 => us.length ≤ 1000 ∧ H1 a = some (exo a C none) ∧ t { nx := fun _ H' => Q .non H', rt := Q } (startF N vs [none]) H1)
    (he : ∀ env, starEach (e :: es) env = (false, eval e env) :: starEach es env := by intro _; rfl) (hpl : ∀ env, (backTo p3 (starEach es env)).any (·.1) = false := by intro _; rfl)
    (hme : ∀ env, ∃ pl : Sem Bool, eval (.Call (.Attribute (.Call (.Name "super" p0) [] [] p1) "__init__" p2) (e :: es) [] p3) env = (do
      let v ← attributeBase (.Call (.Name "super" p0) [] [] p1) "__init__" env (eval (.Call (.Name "super" p0) [] [] p1) env)
      standAt p2.atName
      let (g, first) ← holding [v] (getMethod v "__init__" pl)
      callWith p3 g first (backTo p3 (starEach (e :: es) env)) []) := by intro _; exact ⟨_, rfl⟩) :
    FnOk P w K mg base CX (k + 1) f fd ps sp := by
  refine ⟨len, fun A outer s H args us vs Q E hr e0 hb r hsp => ?_⟩
  have hl := len _ _ _ _ hsp
  have KX : K.In s.heap := e0.mod.kin.keeps fun b o e => (e0.bs b o e).1
  have lim : s.heap.NoLimit := e0.mod.nolimit.keeps fun b o e => (e0.bs b o e).1
  obtain ⟨oc, od, kV, doc, pm, an, ct, osl, rfl, lk⟩ := T.fn
  obtain ⟨a, ws, ta, t, rfl, ea, hPA, hPS, hq⟩ := hbody A outer s H vs Q E (hr.deeper _) hsp
  obtain ⟨c1, d1, csl, hcc⟩ := T.cell
  have Hcc : H cc = none := (e0.bs cc _ (e0.mod.kin _ _ hcc)).2
  have CA : CellsAt [(("__class__" : Str), cc)] ["__class__"] [none] s.heap H := ⟨rfl, fun y c e => by
      by_cases hy : y = "__class__"
      · subst hy
        simp [List.lookup] at e
        subst e
        exact ⟨Hcc, _, _, KX _ _ hcc, rfl⟩
      · have z : (y == ("__class__" : Str)) = false := by simpa using hy
        simp [List.lookup, z] at e, fun x y c e1 e2 => by
      by_cases hx : x = "__class__"
      · by_cases hy : y = "__class__"
        · rw [hx, hy]
        · have z : (y == ("__class__" : Str)) = false := by simpa using hy
          simp [List.lookup, z] at e2
      · have z : (x == ("__class__" : Str)) = false := by simpa using hx
        simp [List.lookup, z] at e1, fun i y hy => by
      cases i with
      | zero =>
        have hy' : ("__class__" : Str) = y := by simpa using hy
        subst hy'
        exact ⟨cc, by simp [List.lookup], fun v hv => by simp at hv⟩
      | succ n => simp at hy⟩
  refine ks_codeAny_call_defAt hr.depth (KX _ _ lk) rfl lim (PySem.W.codeRec_of KX T.cd) rfl hb S.nocell (fun ⟨n, _⟩ hy => S.par n (List.of_mem_zip hy).1) (fun h₁ hns kp => ?_) S.co S.gen S.kind
  show PySem.wpAt _ (A.deeper (envF (nfX st qual cda cc) f s.heap.objs.size)) (.func (defBody st) (envF (nfX st qual cda cc) f s.heap.objs.size)) (execs (defBody st) (envF (nfX st qual cda cc) f s.heap.objs.size)) _ _ _
  have I : Inv (ncx CX P w K mg base N (nfX st qual cda cc) f A outer s H E) [] (startF N (.ref a :: ws) [none]) H { s with heap := h₁, toks := s.toks + (ps.zip us).length } := inv_startN S hr.hd e0 hl r CA hns kp
  rw [hst]
  obtain ⟨ar, har, hsf⟩ : ∃ ar, ((defArgs st).posonlyargs ++ (defArgs st).args).head? = some ar ∧ ar.arg = "self" := by
    cases z : ((defArgs st).posonlyargs ++ (defArgs st).args).head? with
    | none => rw [z] at hself; cases hself
    | some ar => rw [z] at hself; exact ⟨ar, rfl, Option.some.inj hself⟩
  obtain ⟨cc1, cd1, cvs, csl1, file, tf, hcode, hvs, hfile⟩ := T.code
  obtain ⟨nm, q, NN, bs, bm, sn, sub, ab, col, dd, k0, k1, k2, k3, k5, hC, hbm⟩ := T.o.cls
  have hcl : PySem.W.clsIn K C = some { name := nm, bases := bs, mro := .ref C :: bm, ns := NN, qualname := q, hasDict := true, slotNames := sn, subclasses := sub, abstract := ab, collection := col, hasDel := false } := by unfold PySem.W.clsIn; rw [hC] <;> rfl
  have hsu := T.su
  unfold PySem.W.ks_superIn at hsu
  rw [hcl, Option.bind_some] at hsu
  obtain ⟨t1, hx⟩ := exo_at I.hok ea
  obtain ⟨mb, hb1, hb2⟩ := I.mod.blt
  have hkc : (defScope st).names.lookup ("__class__" : Str) = some .free := S.frk _ (by simp)
  have hka : (defScope st).names.lookup ("self" : Str) = some .local := S.par _ (List.mem_of_getElem? hps)
  have ndP : ps.Nodup := by
    have z := S.nd.sublist (List.take_sublist (ps.length + 1) N)
    rw [show ps.length + 1 = ps.length + (["__class__"] : List Str).length from rfl, S.pre] at z
    exact (List.nodup_append.mp z).1
  cases r with
  | @cons _ u0 _ ur ra rw' =>
  obtain rfl : u0 = Value.ref a := ra
  have hv : (ps.zip (Value.ref a :: ur)).reverse.lookup ("self" : Str) = some (.ref a) := zip_look ndP hps rfl
  have XK := I.kIn
  obtain ⟨pl, hm⟩ := hme (envF (nfX st qual cda cc) f s.heap.objs.size)
  refine ks_wpAt_execs_cons (ks_wpAt_Expr_any (ks_wpAt_MethodCall (pl := pl) ?_ hm) I.quiet rfl)
  refine ks_wpAt_super_base (env := envF (nfX st qual cda cc) f s.heap.objs.size) hks hkc (by decide) rfl (XK _ _ lk) rfl har rfl (XK _ _ hcode) rfl hvs hfile T.top ?_
  refine PySem.W.ks_loadName_global S.kind hks (loadGlobal_builtin (I.mod.glob.keeps I.bk) T.nosu (hb1.keeps I.bk) ((hb2 _ (by decide)).trans (by kernel_rfl)) ⟨rfl, ?_⟩)
  refine wpAny_loadName_free S.kind hkc (by rfl) ⟨_, XK _ _ hcc, rfl⟩ ?_
  rw [hsf]
  refine wpAny_loadName_local S.kind hka hns hv ?_
  refine ks_wpAny_isType_cls (XK _ _ hC) rfl ⟨rfl, ?_⟩
  refine ks_wpAny_call_super (XK _ _ hC) rfl hx rfl (fun c z => by cases z) (PySem.W.looks_mroIn XK T.me) (fun h2 hso kp2 => ?_)
  have I2 := I.kept (t' := s.toks + (ps.zip (Value.ref a :: ur)).length) kp2
  have hxC : a ≠ C := fun z => by
    rw [z] at ea
    have y := (e0.bs C _ (e0.mod.kin _ _ hC)).2
    rw [ea] at y
    cases y
  have hI : PySem.W.Looks (model P w) h2 (isInstance (.ref a) (.type "ValueError")) true := by
    have J : PySem.W.InstAt h2 a _ C none := ⟨kp2 _ _ hx, rfl, rfl, trivial⟩
    exact J.type.andThen (PySem.W.looks_subIn I2.kIn T.ve)
  refine PySem.W.kxs_getMethod PySem.W.kxs_ValueError hso (PySem.W.looks_opaque I2.kIn T.opq) (fun A' Q' E' s' k' q' => wpAny_bind ((PySem.W.looks_clsIn I2.kIn hcl) A' _ E' s' k' (wpAny_pure q'))) rfl I2.kIn hsu hI hxC (by decide) ?_
  have I3 := (I2.kept (h' := h2.push (PySem.W.kxs_mw "ValueError.__init__" a)) (t' := s.toks + (ps.zip (Value.ref a :: ur)).length + 1) fun b o z => Heap.get?_push_of_some _ z).pins_of (pins' := [(h2.objs.size, PySem.W.kxs_mw "ValueError.__init__" a)]) (fun p hp => by
    rw [List.mem_singleton.mp hp]
    exact ⟨Heap.get?_push_at rfl rfl, I2.hok.fresh (Nat.le_refl _), Nat.ne_of_gt I2.lt, I2.nofs (Nat.le_refl _), fun v z => by cases z⟩)
  refine PySem.W.kxs_callWith (i := "ValueError.__init__") (x := a) (by rw [he]; show (false || (backTo p3 (starEach es _)).any (·.1)) = false; rw [hpl]; rfl) ?_
  have hev := he (envF (nfX st qual cda cc) f s.heap.objs.size)
  rw [hev]
  refine evalArgs_plain ?_
  show wpAny _ _ (spliced (backTo p3 ((false, eval e (envF (nfX st qual cda cc) f s.heap.objs.size)) :: starEach es (envF (nfX st qual cda cc) f s.heap.objs.size)))) _ _ _
  rw [← hev]
  refine thn (hPA.run p3 _ _ _ H _ I3 hq) fun us4 s4 ⟨vs4, H4, I4, r4, l4, e4, q4⟩ => ⟨(I4.pin _ (List.mem_append_right _ List.mem_cons_self)).1, ?_⟩
  obtain ⟨t4, h4⟩ := exo_at I4.hok e4
  have hu4 := (I4.pin _ (List.mem_append_right _ List.mem_cons_self)).1
  have K4 := I4.kIn
  obtain ⟨hp4, g4, d4, tk4, os4⟩ := s4
  refine call_veb (K4 _ _ hC) h4 hu4 (by show us4.length ≤ sizeLine; rw [← Paired.length r4, sizeLine_eq]; omega) fun h' t5 k5' e5 => ?_
  have J := I4.write (t' := tk4) (x := a) (e := a) (o := exo a C none) (by rw [e4]; exact True.intro) (.inl rfl) k5' ⟨_, e5⟩ (exo_ok e5)
  have eu : upd H4 a (exo a C none) = H4 := by
    funext b
    by_cases hb : b = a
    · rw [hb, upd_same, e4]
    · rw [upd_ne hb]
  rw [eu] at J
  show PySem.wpAt _ _ _ (execs rest _) _ _ _
  refine wpAt_of_wpAny (wpAny_mono (hPS.run _ _ _ H4 _ J q4) (fun fl s' hs => ?_) fun e s' hs => hs)
  have fin : ∀ {σ' : L2.St} {H' : Hp} {v : V} {u : Value} {pins : List (Addr × Obj)}, Inv (ncx CX P w K mg base N (nfX st qual cda cc) f A outer s H E) pins σ' H' s' → L2.RelV v u → Q v H' → CE outer P w H s Q u s' :=
    fun {σ' H' v u pins} J rv q => ⟨v, H', J.os, J.bare, J.base, J.hok, rv, q⟩
  cases fl with
  | ret u =>
    obtain ⟨v, σ', H', J', rv, q'⟩ := hs
    exact fin J' rv q'
  | next =>
    obtain ⟨σ', H', J', q'⟩ := hs
    exact fin (v := V.non) (u := Value.none) J' rfl q'
  | brk =>
    obtain ⟨_, _, _, q'⟩ := hs
    exact False.elim q'
  | cont =>
    obtain ⟨_, _, _, q'⟩ := hs
    exact False.elim q'
theorem SuX.binds (T : SuX P K mg C f st qual fd cda cc) (h : ∀ (kV doc pm : Value) (an : Option Addr) (ct : Value) (us : List Value), us.length = ps.length → bindArgs (PySem.W.fnX "__init__" qual (defArgs st) (defBody st) (defScope st) [("__class__", cc)] .none kV doc pm an (.ref cda) ct) ⟨us, []⟩ = pure (ps.zip us)) : Binds K fd ps [] := by
  obtain ⟨oc, od, kV, doc, pm, an, ct, osl, rfl, lk⟩ := T.fn
  exact .all (h kV doc pm an ct)
end
end Rl
end
section
set_option maxHeartbeats 2000000
namespace Rl
open PySem PySem.Spec PyProof.Rows L2
/-! ### the head's facts of own exceptions -/
/-- the class at C is an own exception over ValueError -/
def oexB (K : PySem.W.Frag) (C : Addr) : Bool := match K.lookup C with
  | some ⟨.type t, _, .cls cd, sl⟩ => (match cd.mro, sl.toList with
    | .ref D :: bm, [_, _, _, _, some (.builtin n), _] => decide (t = "type") && (decide (D = C) && (decide (n = "ValueError.__new__") && (!cd.hasDel && (cd.hasDict && PySem.HandSPX.refsVE bm))))
    | _, _ => false)
  | _ => false
theorem oexB_ok {K : PySem.W.Frag} {C : Addr} (h : oexB K C = true) :
    ∃ nm q N bs bm sn sub ab col dd k0 k1 k2 k3 k5, K.lookup C = some (excClassObj nm q C N bs bm true sn sub ab col dd k0 k1 k2 k3 k5 "ValueError.__new__") ∧ PySem.HandSPX.refsVE bm = true := by
  unfold oexB at h
  split at h
  · rename_i t dd cd sl ho
    split at h
    · rename_i D bm k0 k1 k2 k3 n k5 hm hs
      obtain ⟨h1, h⟩ := He.ba h
      obtain ⟨h2, h⟩ := He.ba h
      obtain ⟨h3, h⟩ := He.ba h
      obtain ⟨h4, h⟩ := He.ba h
      obtain ⟨h5, h6⟩ := He.ba h
      have e1 := of_decide_eq_true h1
      have e2 := of_decide_eq_true h2
      have e3 := of_decide_eq_true h3
      subst e1 e2 e3
      obtain ⟨nm, bs, mro, ns, qn, hd, sn, sub, ab, col, del⟩ := cd
      have e4 : del = false := by simpa using h4
      have e5 : hd = true := h5
      dsimp only at hm
      subst hm e4 e5
      have hsl : sl = #[k0, k1, k2, k3, some (.builtin "ValueError.__new__"), k5] := by
        obtain ⟨l⟩ := sl
        simp only at hs
        rw [hs]
      subst hsl
      exact ⟨nm, qn, ns, bs, bm, sn, sub, ab, col, dd, k0, k1, k2, k3, k5, ho, h6⟩
    · cases h
  · cases h
abbrev XW : Type := Option (Str × Str × Arguments × FuncBody × Scope × Addr × List Str × Addr)
/-- the words of the __init__ of the class named x -/
def xiW (K : PySem.W.Frag) (x : Str) : XW := match K.lookup (He.ma K (He.ga K x) "__init__") with
  | some ⟨_, _, .func fd, _⟩ => some (fd.name, fd.qualname, fd.params, fd.body, fd.scope, fd.globals, fd.closure.map (·.1), fd.builtins)
  | _ => none
def xiV (st : Stmt) (qual : Str) : XW := some ("__init__", qual, defArgs st, .stmts (defBody st), defScope st, mainGlobals, ["__class__"], builtinsNs)
/-- its defaults, code and cell -/
def xiF (K : PySem.W.Frag) (C f : Addr) (file qual : Str) : Bool := match K.lookup f with
  | some ⟨_, _, .func fd, _⟩ => (match fd.defaults, fd.code, fd.closure with
    | .none, .ref cda, [(_, cc)] => PySem.W.codeIn K (.ref cda) qual && ((match K.lookup cda with
        | some ⟨_, _, .fields vs, _⟩ => (match (vs[2]? : Option Value) with
          | some (.str y _) => decide (y = file)
          | _ => false)
        | _ => false) && (match K.lookup cc with
        | some ⟨_, _, .cell (some (.ref D)), _⟩ => decide (D = C)
        | _ => false))
    | _, _, _ => false)
  | _ => false
def xiB (K : PySem.W.Frag) (C f : Addr) (file qual : Str) : Bool := oexB K C && (xiF K C f file qual && (decide (PySem.W.findIn K (.ref C) "__setattr__" = some (some (.builtin "object.__setattr__"))) && (decide (PySem.W.subIn K (.ref C) (.type "BaseException") = some true) && (decide (PySem.W.typeIn K (.ref C) = some (.type "type")) &&
  (PySem.W.keepIn K (.ref C) && (decide (PySem.W.findIn K (.ref C) "__init__" = some (some (.ref f))) && (decide (PySem.W.typeIn K (.ref f) = some (.type "function")) && (decide (PySem.W.ks_superIn K C C "__init__" = some (some (.builtin "ValueError.__init__"))) &&
  (decide (PySem.W.subIn K (.ref C) (.type "ValueError") = some true) && (decide (PySem.W.mroIn K C (.ref C) = some true) && decide (PySem.W.nsIn K cStatics "thirdparty.any" = some none)))))))))))
theorem xi_ok {P : Program} {K : PySem.W.Frag} {mg : Str → Option Value} {x : Str} {st : Stmt} {qual file : Str} (e : xiW K x = xiV st qual) (c : xiB K (He.ga K x) (He.ma K (He.ga K x) "__init__") file qual = true) (hf : P.main.file = file) (ns : mg "super" = none) (tp : (P.main.scope.names.lookup ("super" : Str)).isSome = false) :
    ∃ fd cda cc, SuX P K mg (He.ga K x) (He.ma K (He.ga K x) "__init__") st qual fd cda cc := by
  obtain ⟨c1, c⟩ := He.ba c
  obtain ⟨c2, c⟩ := He.ba c
  obtain ⟨c3, c⟩ := He.ba c
  obtain ⟨c4, c⟩ := He.ba c
  obtain ⟨c5, c⟩ := He.ba c
  obtain ⟨c6, c⟩ := He.ba c
  obtain ⟨c7, c⟩ := He.ba c
  obtain ⟨c8, c⟩ := He.ba c
  obtain ⟨c9, c⟩ := He.ba c
  obtain ⟨c10, c⟩ := He.ba c
  obtain ⟨c11, c12⟩ := He.ba c
  unfold xiF at c2
  unfold xiW at e
  cases q : K.lookup (He.ma K (He.ga K x) "__init__") with
  | none =>
    rw [q] at c2
    cases c2
  | some o =>
    obtain ⟨oc, od, dt, osl⟩ := o
    rw [q] at c2 e
    cases dt with
    | func fd =>
      obtain ⟨n1, n2, n3, n4, n5, n6, n7, n8, n9, n10, n11, n12, n13, n14, n15⟩ := fd
      have e2 : (some (n1, n2, n3, n4, n5, n6, n7.map (·.1), n15) : XW) = xiV st qual := e
      unfold xiV at e2
      simp only [Option.some.injEq, Prod.mk.injEq] at e2
      obtain ⟨h1, h2, h3, h4, h5, h6, h7, h8⟩ := e2
      subst h1 h2 h3 h4 h5 h6 h8
      dsimp only at c2
      split at c2
      · rename_i cda nm cc
        obtain ⟨k1, k2⟩ := He.ba c2
        obtain ⟨k2, k3⟩ := He.ba k2
        have en : nm = "__class__" := by simpa using h7
        subst en
        refine ⟨_, cda, cc, ⟨oexB_ok c1, of_decide_eq_true c3, of_decide_eq_true c4, of_decide_eq_true c5, c6⟩, of_decide_eq_true c7, of_decide_eq_true c8, of_decide_eq_true c9, of_decide_eq_true c10, of_decide_eq_true c11, of_decide_eq_true c12, ⟨oc, od, n9, n10, n11, n12, n14, osl, rfl, q⟩, k1, ?_, ?_, ns, tp⟩
        · split at k2
          · rename_i c d vs sl hl
            split at k2
            · rename_i y t hy
              exact ⟨c, d, vs, sl, y, t, hl, hy, beq_iff_eq.mpr (hf.trans (of_decide_eq_true k2).symm)⟩
            · cases k2
          · cases k2
        · split at k3
          · rename_i c d D sl hl
            have eD := of_decide_eq_true k3
            subst eD
            exact ⟨c, d, sl, hl⟩
          · cases k3
      · cases c2
    | _ => cases c2
/-- what isinstance and the fields ask of the class -/
def xcB (K : PySem.W.Frag) (C : Addr) : Bool := xfB K C && (decide (PySem.W.findIn K (.ref C) "__class__" = some (some (.builtin "object.__class__"))) && (decide (PySem.W.specialIn K (.builtin "object.__class__") "__get__" = some (some (.builtin "getset_descriptor.__get__"))) && (decide (PySem.W.takesIn K (.builtin "object.__class__") = some true) && decide (PySem.W.mroIn K C (.type "object") = some true))))
theorem xcB_ok {K : PySem.W.Frag} {C : Addr} (h : xcB K C = true) : ExcC K C ∧ XfC K C := by
  obtain ⟨h1, h⟩ := He.ba h
  obtain ⟨h2, h⟩ := He.ba h
  obtain ⟨h3, h⟩ := He.ba h
  obtain ⟨h4, h5⟩ := He.ba h
  have x := xfB_ok h1
  exact ⟨⟨x.ga, x.gg, x.exC, x.hdC, of_decide_eq_true h2, of_decide_eq_true h3, of_decide_eq_true h4, of_decide_eq_true h5⟩, x⟩
end Rl
end
section
namespace Nl
open PySem PySem.Spec PyProof.Rows L2 Nt
theorem Rd.same {H H' : Hp} {a : Addr} {u : HO} (h : Rd H a u) (s : Same H H') : Rd H' a u := by
  rcases h with h | ⟨o, h⟩
  · exact .inl (s _ _ h)
  · exact .inr ⟨o, s _ _ h⟩
theorem getB_isSome (B : Br) (x : Str) : ((getB B x).map V.int).isSome = decide (x ∈ nms B) := by
  by_cases h : x ∈ nms B
  · obtain ⟨b, e⟩ := getB_some h
    rw [e, decide_eq_true h]; rfl
  · rw [getB_none h, decide_eq_false h]; rfl
section
variable {P : Program} {w : World} {K : PySem.W.Frag} {mg : Str → Option Value} {base : Heap}
theorem scPondOf : FnScope ["brims", "thing"] ["brims", "thing"] (defScope sPondOf) := ⟨rfl, rfl, rfl, by decide +kernel, rfl, by decide +kernel, by decide +kernel⟩
def spPondOf : Sp := fun vs H Q _ => ∃ (a : Addr) (B : Br) (z : Str), vs = [.ref a, .str z] ∧ Rd H a (.dK (bk B)) ∧ Sm 25 z ∧ ∀ H', Same H H' → Q (.bl (nameB z && decide (z ∈ nms B))) H'
theorem ok_pondOf {f fN : Addr} {fd fdN : FuncData} (F : Fun K "is_pond_of" "is_pond_of" sPondOf f fd) (FN : Fun K "is_name" "is_name" sName fN fdN) (GN : FnOk P w K mg base CX0 1 fN fdN ["thing"] spName) (bN : Binds K fdN ["thing"] []) (gN : mg "is_name" = some (.ref fN)) :
    FnOk P w K mg base CX0 2 f fd ["brims", "thing"] spPondOf := by
  refine F.ok scPondOf (fun vs H Q E h => ?_) (fun cdv A outer s H vs Q E hr h => ?_)
  · obtain ⟨a, B, z, rfl, _⟩ := h
    rfl
  · obtain ⟨a, B, z, rfl, hA, hz, q⟩ := h
    refine ⟨_, pss_one (ps_ret (pe_and (pe_call GN hr (by rfl) gN FN.kp bN .nil pass0 (pa_cons (pv 1) pa_nil)) (pe_one (pe_cmp (pc_din (hu_of hr) (pv 1) (pv 0)) rfl)))), ?_⟩
    refine ⟨.str z, rfl, z, rfl, hz, fun H1 s1 => ⟨nameB z, rfl, ite2 (fun e => ?_) (fun e => ?_)⟩⟩
    · refine ⟨.str z, rfl, .ref a, rfl, a, _, rfl, .inl ⟨_, Sum.inr z, Rd.same hA s1, rfl, rfl⟩, ?_⟩
      rw [valV_bk, getB_isSome]
      have := q H1 s1
      rw [e] at this
      exact this
    · have := q H1 s1
      rw [Bool.not_eq_true] at e
      rw [e] at this
      exact this
theorem scPairOf : FnScope ["brims", "thing"] ["brims", "thing"] (defScope sPairOf) := ⟨rfl, rfl, rfl, by decide +kernel, rfl, by decide +kernel, by decide +kernel⟩
def spPairOf : Sp := fun vs H Q _ => ∃ (a t : Addr) (B : Br) (x y : Str), vs = [.ref a, .ref t] ∧ Rd H a (.dK (bk B)) ∧ H t = some (.tup [.str x, .str y]) ∧ Nm x ∧ Nm y ∧ x ∈ nms B ∧ y ∈ nms B ∧ x ≠ y ∧ ∀ H', Same H H' → Q (.bl true) H'
theorem ok_pairOf {f fN : Addr} {fd fdN : FuncData} (F : Fun K "is_pair_of" "is_pair_of" sPairOf f fd) (FN : Fun K "is_pond_of" "is_pond_of" sPondOf fN fdN) (GN : FnOk P w K mg base CX0 2 fN fdN ["brims", "thing"] spPondOf) (bN : Binds K fdN ["brims", "thing"] []) (gN : mg "is_pond_of" = some (.ref fN))
    (mi : mg "isinstance" = none) (mt : mg "tuple" = none) (ml : mg "len" = none) : FnOk P w K mg base CX0 3 f fd ["brims", "thing"] spPairOf := by
  refine F.ok scPairOf (fun vs H Q E h => ?_) (fun cdv A outer s H vs Q E hr h => ?_)
  · obtain ⟨a, t, B, x, y, rfl, _⟩ := h
    rfl
  · obtain ⟨a, t, B, x, y, rfl, hA, hT, nx, ny, mx, my, ne, q⟩ := h
    refine ⟨_, pss_cons (ps_if (PW.pt (pw_or (pt_not (pt_val (pe_callB call_isi (by rfl) mi (by decide +kernel) (pa_cons (pv 1) (pa_cons (pe_bltn (v := .ty "tuple") (by rfl) mt (by decide +kernel) rfl) pa_nil)))))
        (pw_or1 (pt_cmpR op_ne (pe_callB call_len_seq (by rfl) ml PySem.boot_len (pa_cons (pv 1) pa_nil)) pe_int (nomark _))))) (pss_one (ps_ret pe_bl)) pss_nil)
      (pss_one (ps_ret (pe_and (pe_call GN hr (by rfl) gN FN.kp bN .nil pass0 (pa_cons (pv 0) (pa_cons (pe_ix ix_tup (pv 1) pe_int (fun _ _ => rfl)) pa_nil)))
        (pe_and (pe_call GN hr (by rfl) gN FN.kp bN .nil pass0 (pa_cons (pv 0) (pa_cons (pe_ix ix_tup (pv 1) pe_int (fun _ _ => rfl)) pa_nil)))
          (pe_one (pe_cmpR op_ne (pe_ix ix_tup (pv 1) pe_int (fun _ _ => rfl)) (pe_ix ix_tup (pv 1) pe_int (fun _ _ => rfl)) (nomark _))))))), ?_⟩
    have i0 : atI [V.str x, V.str y] 0 = some (.str x) := atI_nat (j := 0) rfl
    have i1 : atI [V.str x, V.str y] 1 = some (.str y) := atI_nat (j := 1) rfl
    refine ⟨.ref t, rfl, .ref t, .ty "tuple", .type "tuple", .type "tuple", true, rfl, .ty _, .base (.tup hT), kit_ty (by decide +kernel), true, rfl, iteF ?_⟩
    refine ⟨.ref t, rfl, t, _, rfl, .inr (SqT.of hT), rfl, _, rfl, iteNS rfl ?_⟩
    refine ⟨.ref a, rfl, .ref t, rfl, t, _, 0, _, rfl, rfl, SqT.of hT, i0, a, B, x, rfl, hA, nx.sm.mono (by decide), fun H1 s1 => ?_⟩
    rw [show nameB x = true from nx, decide_eq_true mx]
    refine ⟨true, rfl, iteT ?_⟩
    refine ⟨.ref a, rfl, .ref t, rfl, t, _, 1, _, rfl, rfl, SqT.of (s1 _ _ hT), i1, a, B, y, rfl, Rd.same hA s1, ny.sm.mono (by decide), fun H2 s2 => ?_⟩
    rw [show nameB y = true from ny, decide_eq_true my]
    refine ⟨true, rfl, iteT ?_⟩
    refine ⟨.ref t, rfl, t, _, 0, _, rfl, rfl, SqT.of (s2 _ _ (s1 _ _ hT)), i0, .ref t, rfl, t, _, 1, _, rfl, rfl, SqT.of (s2 _ _ (s1 _ _ hT)), i1, rfl, ?_⟩
    rw [decStr, decide_eq_false ne]
    exact q H2 (s1.trans s2)
/-! ### goes_out, comes_in -/
theorem scGoes : FnScope ["pipes", "name", "pair"] ["pipes", "name"] (defScope sGoes) := ⟨rfl, rfl, rfl, by decide +kernel, rfl, by decide +kernel, by decide +kernel⟩
def spGoes : Sp := fun vs H Q _ => ∃ (a : Addr) (Pp : Pi) (z : Str), vs = [.ref a, .str z] ∧ H a = some (.dT (pt Pp)) ∧ (Pp.map Prod.fst).Nodup ∧ Pp.length ≤ 200 ∧ ∀ H', Same H H' → Q (.int (outW Pp z)) H'
def spComes : Sp := fun vs H Q _ => ∃ (a : Addr) (Pp : Pi) (z : Str), vs = [.ref a, .str z] ∧ H a = some (.dT (pt Pp)) ∧ (Pp.map Prod.fst).Nodup ∧ Pp.length ≤ 200 ∧ ∀ H', Same H H' → Q (.int (inW Pp z)) H'
theorem pt_at {Pp : Pi} {i : Nat} {k : List Key} {v : V} (h : (pt Pp)[i]? = some (k, v)) : ∃ p, Pp[i]? = some p ∧ k = Rl.pk p.1 ∧ v = .int p.2 := by
  unfold pt at h
  rw [List.getElem?_map] at h
  cases e : Pp[i]? with
  | none => rw [e] at h; cases h
  | some p =>
    rw [e] at h
    have := Option.some.inj h
    injection this with h1 h2
    exact ⟨p, rfl, h1.symm, h2.symm⟩
theorem ok_goes {f : Addr} {fd : FuncData} {k : Nat} (F : Fun K "goes_out" "goes_out" sGoes f fd) (ms : mg "sum" = none) : FnOk P w K mg base CX0 (k + 1) f fd ["pipes", "name"] spGoes := by
  refine F.ok scGoes (fun vs H Q E h => ?_) (fun cdv A outer s H vs Q E hr h => ?_)
  · obtain ⟨a, Pp, z, rfl, _⟩ := h
    rfl
  · obtain ⟨a, Pp, z, rfl, hA, nd, hl, q⟩ := h
    refine ⟨_, pss_one (ps_ret (pe_callB (cr_sum rfl) (by rfl) ms (by decide +kernel) (pa_cons (pe_lock (pe_lc (own := [("pair", 2)]) (g := gName 2) (tt := tTest (tOp rEq (tOp (rIxT K) (tVar 2) (tC (.int 0))) (tVar 1))) rfl scGoes.nd (pi_keys (pv 0))
      (blkOk_by (N := ["pipes", "name", "pair"]) (sc := defScope sGoes) (by decide +kernel)) (fun _ _ _ _ _ => pg_name (i := 2) scGoes.nd rfl (Or.inl rfl))
      (fun _ _ _ _ _ => pts_one (pt_cmpR op_eq (pe_ix ix_tup (pv 2) pe_int (fun _ _ => rfl)) (pv 1) (nomark _))) (fun _ _ _ _ _ => pe_dget (hu_of hr) (pv 0) (pv 2) (fun _ _ => rfl)))) pa_nil))), ?_⟩
    refine ⟨a, _, hA, trivial, fun od => ?_⟩
    refine ⟨.ref a, rfl, a, od, rfl, .inr ⟨_, upd_same, fun D nD => ?_⟩⟩
    have hD0 : D ≠ a := fun e => by subst e; rw [upd_same] at nD; cases nD
    refine lc_it (n := (pt Pp).length) walk_keysT (fun i H1 => H1 D = some (.lst ((((Pp.take i).filter fun p => decide (p.1.1 = z)).map (·.2)).map V.int)) ∧ Same (upd H a (.frz od (.dT (pt Pp)))) H1) ⟨upd_same, same_new nD⟩ (fun i H1 _ h => h.2 a _ upd_same) ?_ ?_
    · rintro i x H1 H2 hi ⟨hD, sm⟩ ⟨rfl, kk, v, qq, hkv, rfl, hq⟩
      obtain ⟨p, hp, rfl, rfl⟩ := pt_at hkv
      have hm : p ∈ Pp := List.mem_of_getElem? hp
      refine ⟨rfl, .ref qq, rfl, qq, _, 0, .str p.1.1, rfl, rfl, SqT.of hq, atI_nat (j := 0) rfl, .str z, rfl, rfl, _, rfl, ?_⟩
      rw [decStr]
      have ln : ∀ l : Pi, l.length ≤ 200 → (((l.filter fun p => decide (p.1.1 = z)).map (·.2)).map V.int).length < sizeLine := fun l h => by
        rw [List.length_map, List.length_map]
        exact small1000 (Nat.le_trans (List.length_filter_le _ _) (by omega))
      refine ite2 (fun e => ?_) (fun e => ?_)
      · refine ⟨.ref a, rfl, .ref qq, rfl, a, .int p.2, rfl, .inr ⟨_, Rl.pk p.1, qq, .inr ⟨od, sm a _ upd_same⟩, rfl, hq, ?_⟩, _, hD, ln _ (by rw [List.length_take]; omega), ?_, ?_⟩
        · rw [valV_pt, getP_of_mem nd (show (p.1, p.2) ∈ Pp from hm)]; rfl
        · rw [upd_same, List.take_add_one, hp, List.filter_append]
          show _ = some (HO.lst (((_ ++ List.filter _ [p]).map _).map _))
          rw [List.filter_cons, if_pos e]
          simp
        · exact fun b o eb => by
            have nb : b ≠ D := ne_of_none eb nD
            rw [upd_ne nb]; exact sm b o eb
      · refine ⟨?_, sm⟩
        rw [hD, List.take_add_one, hp, List.filter_append]
        show _ = some (HO.lst (((_ ++ List.filter _ [p]).map _).map _))
        rw [List.filter_cons, if_neg e]
        simp
    · rintro H1 ⟨hD, sm⟩
      obtain ⟨l1, l2⟩ := same_lock hA sm
      refine ⟨l1, D, _, rfl, SqL.of (by rw [upd_ne hD0]; exact hD), ?_⟩
      rw [List.take_of_length_le (by unfold pt; rw [List.length_map]; exact Nat.le_refl _)]
      exact q _ l2
end
end Nl
end
section
namespace Nl
open PySem PySem.Spec PyProof.Rows L2 Nt
section
variable {P : Program} {w : World} {K : PySem.W.Frag} {mg : Str → Option Value} {base : Heap}
theorem scComes : FnScope ["pipes", "name", "pair"] ["pipes", "name"] (defScope sComes) := ⟨rfl, rfl, rfl, by decide +kernel, rfl, by decide +kernel, by decide +kernel⟩
theorem ok_comes {f : Addr} {fd : FuncData} {k : Nat} (F : Fun K "comes_in" "comes_in" sComes f fd) (ms : mg "sum" = none) : FnOk P w K mg base CX0 (k + 1) f fd ["pipes", "name"] spComes := by
  refine F.ok scComes (fun vs H Q E h => ?_) (fun cdv A outer s H vs Q E hr h => ?_)
  · obtain ⟨a, Pp, z, rfl, _⟩ := h
    rfl
  · obtain ⟨a, Pp, z, rfl, hA, nd, hl, q⟩ := h
    refine ⟨_, pss_one (ps_ret (pe_callB (cr_sum rfl) (by rfl) ms (by decide +kernel) (pa_cons (pe_lock (pe_lc (own := [("pair", 2)]) (g := gName 2) (tt := tTest (tOp rEq (tOp (rIxT K) (tVar 2) (tC (.int 1))) (tVar 1))) rfl scComes.nd (pi_keys (pv 0))
      (blkOk_by (N := ["pipes", "name", "pair"]) (sc := defScope sComes) (by decide +kernel)) (fun _ _ _ _ _ => pg_name (i := 2) scComes.nd rfl (Or.inl rfl))
      (fun _ _ _ _ _ => pts_one (pt_cmpR op_eq (pe_ix ix_tup (pv 2) pe_int (fun _ _ => rfl)) (pv 1) (nomark _))) (fun _ _ _ _ _ => pe_dget (hu_of hr) (pv 0) (pv 2) (fun _ _ => rfl)))) pa_nil))), ?_⟩
    refine ⟨a, _, hA, trivial, fun od => ?_⟩
    refine ⟨.ref a, rfl, a, od, rfl, .inr ⟨_, upd_same, fun D nD => ?_⟩⟩
    have hD0 : D ≠ a := fun e => by subst e; rw [upd_same] at nD; cases nD
    refine lc_it (n := (pt Pp).length) walk_keysT (fun i H1 => H1 D = some (.lst ((((Pp.take i).filter fun p => decide (p.1.2 = z)).map (·.2)).map V.int)) ∧ Same (upd H a (.frz od (.dT (pt Pp)))) H1) ⟨upd_same, same_new nD⟩ (fun i H1 _ h => h.2 a _ upd_same) ?_ ?_
    · rintro i x H1 H2 hi ⟨hD, sm⟩ ⟨rfl, kk, v, qq, hkv, rfl, hq⟩
      obtain ⟨p, hp, rfl, rfl⟩ := pt_at hkv
      have hm : p ∈ Pp := List.mem_of_getElem? hp
      refine ⟨rfl, .ref qq, rfl, qq, _, 1, .str p.1.2, rfl, rfl, SqT.of hq, atI_nat (j := 1) rfl, .str z, rfl, rfl, _, rfl, ?_⟩
      rw [decStr]
      have ln : ∀ l : Pi, l.length ≤ 200 → (((l.filter fun p => decide (p.1.2 = z)).map (·.2)).map V.int).length < sizeLine := fun l h => by
        rw [List.length_map, List.length_map]
        exact small1000 (Nat.le_trans (List.length_filter_le _ _) (by omega))
      refine ite2 (fun e => ?_) (fun e => ?_)
      · refine ⟨.ref a, rfl, .ref qq, rfl, a, .int p.2, rfl, .inr ⟨_, Rl.pk p.1, qq, .inr ⟨od, sm a _ upd_same⟩, rfl, hq, ?_⟩, _, hD, ln _ (by rw [List.length_take]; omega), ?_, ?_⟩
        · rw [valV_pt, getP_of_mem nd (show (p.1, p.2) ∈ Pp from hm)]; rfl
        · rw [upd_same, List.take_add_one, hp, List.filter_append]
          show _ = some (HO.lst (((_ ++ List.filter _ [p]).map _).map _))
          rw [List.filter_cons, if_pos e]
          simp
        · exact fun b o eb => by
            have nb : b ≠ D := ne_of_none eb nD
            rw [upd_ne nb]; exact sm b o eb
      · refine ⟨?_, sm⟩
        rw [hD, List.take_add_one, hp, List.filter_append]
        show _ = some (HO.lst (((_ ++ List.filter _ [p]).map _).map _))
        rw [List.filter_cons, if_neg e]
        simp
    · rintro H1 ⟨hD, sm⟩
      obtain ⟨l1, l2⟩ := same_lock hA sm
      refine ⟨l1, D, _, rfl, SqL.of (by rw [upd_ne hD0]; exact hD), ?_⟩
      rw [List.take_of_length_le (by unfold pt; rw [List.length_map]; exact Nat.le_refl _)]
      exact q _ l2
end
end Nl
end
section
set_option maxHeartbeats 1000000
namespace Nl
open PySem PySem.Spec PyProof.Rows L2 Nt
theorem inV_strs (y : Str) (l : List Str) : inV (.str y) (l.map V.str) = decide (y ∈ l) := by
  unfold inV
  induction l with
  | nil => rfl
  | cons x r ih =>
    rw [List.map_cons, List.any_cons, ih]
    show ((x == y) || decide (y ∈ r)) = decide (y ∈ x :: r)
    by_cases h : x = y
    · rw [show (x == y) = true from beq_iff_eq.mpr h, decide_eq_true (show y ∈ x :: r by rw [h]; exact List.mem_cons_self)]; rfl
    · rw [show (x == y) = false from beq_eq_false_iff_ne.mpr h]
      by_cases m : y ∈ r
      · rw [decide_eq_true m, decide_eq_true (List.mem_cons_of_mem _ m)]; rfl
      · rw [decide_eq_false m, decide_eq_false (fun z => by
          rcases List.mem_cons.mp z with e | e
          · exact h e.symm
          · exact m e)]; rfl
theorem flat_strs (l : List Str) : (l.map V.str).all flatV = true := by
  rw [List.all_map]; exact List.all_eq_true.mpr fun _ _ => rfl
theorem bk_append (S T : Br) : bk (S ++ T) = bk S ++ bk T := List.map_append
theorem bk_len (S : Br) : (bk S).length = S.length := List.length_map _
theorem bk_at {B : Br} {i : Nat} {k : Key} {v : V} (h : (bk B)[i]? = some (k, v)) : ∃ p, B[i]? = some p ∧ k = Sum.inr p.1 ∧ v = .int p.2 := by
  unfold bk at h
  rw [List.getElem?_map] at h
  cases e : B[i]? with
  | none => rw [e] at h; cases h
  | some p =>
    rw [e] at h
    have := Option.some.inj h
    injection this with h1 h2
    exact ⟨p, rfl, h1.symm, h2.symm⟩
theorem putK_bk {S : Br} {x : Str} {n : Int} (h : x ∉ nms S) : putK (bk S) (Sum.inr x : Key) (.int n) = bk (S ++ [(x, n)]) := by
  rw [putK_new _ (by rw [valV_bk, getB_none h]; rfl), bk_append]; rfl
theorem nms_append (S T : Br) : nms (S ++ T) = nms S ++ nms T := List.map_append
/-- the ponds that soak -/
def soakers (B : Br) (Pp : Pi) (l : Br) : Br := (l.filter fun p => decide (outW Pp p.1 < p.2)).map fun p => (p.1, 0)
theorem soakers_mem {B : Br} {Pp : Pi} {l : Br} {x : Str} : x ∈ nms (soakers B Pp l) ↔ ∃ b, (x, b) ∈ l ∧ outW Pp x < b := by
  unfold nms soakers
  rw [List.map_map, List.mem_map]
  constructor
  · rintro ⟨p, hp, rfl⟩
    obtain ⟨h1, h2⟩ := List.mem_filter.mp hp
    exact ⟨p.2, h1, of_decide_eq_true h2⟩
  · rintro ⟨b, hb, hl⟩
    exact ⟨(x, b), List.mem_filter.mpr ⟨hb, decide_eq_true hl⟩, rfl⟩
theorem soakers_nd {B : Br} {Pp : Pi} {l : Br} (nd : (nms l).Nodup) : (nms (soakers B Pp l)).Nodup := by
  unfold nms soakers
  rw [List.map_map]
  exact List.Nodup.sublist (List.Sublist.map Prod.fst List.filter_sublist) nd
section
variable {P : Program} {w : World} {K : PySem.W.Frag} {mg : Str → Option Value} {base : Heap}
theorem scSteps : FnScope ["brims", "pipes", "steps", "far", "edge", "name", "one", "other"] ["brims", "pipes"] (defScope sSteps) := ⟨rfl, rfl, rfl, by decide +kernel, rfl, by decide +kernel, by decide +kernel⟩
def spSteps : Sp := fun vs H Q _ => ∃ (a b : Addr) (B : Br) (Pp : Pi), vs = [.ref a, .ref b] ∧ H a = some (.dK (bk B)) ∧ H b = some (.dT (pt Pp)) ∧ Wf Nm B Pp ∧
  ∀ (H' : Hp) (p : Addr) (S : Br), Same H H' → H p = none → H' p = some (.dK (bk S)) → (nms S).Nodup → (∀ x, x ∈ nms S ↔ x ∈ nms B ∧ Opn B Pp x) → Q (.ref p) H'
theorem ok_steps {f fG : Addr} {fd fdG : FuncData} (F : Fun K "steps_out" "steps_out" sSteps f fd) (FG : Fun K "goes_out" "goes_out" sGoes fG fdG) (GG : FnOk P w K mg base CX0 1 fG fdG ["pipes", "name"] spGoes) (bG : Binds K fdG ["pipes", "name"] []) (gG : mg "goes_out" = some (.ref fG))
    (ms : mg "sorted" = none) : FnOk P w K mg base CX0 2 f fd ["brims", "pipes"] spSteps := by
  refine F.ok scSteps (fun vs H Q E h => ?_) (fun cdv A outer s H vs Q E hr h => ?_)
  · obtain ⟨a, b, B, Pp, rfl, _⟩ := h
    rfl
  · obtain ⟨a, b, B, Pp, rfl, hA, hB, wf, q⟩ := h
    have hu := hu_of hr
    refine ⟨_, pss_cons (ps_set (i := 2) scSteps.nd rfl (Or.inr rfl) (pe_lock (Rl.pe_dcP (T := .dK []) (own := [("name", 5)]) (g := gName 5) (.inr rfl) hr rfl scSteps.nd (pi_keys (pv 0))
        (blkOk_by (N := ["brims", "pipes", "steps", "far", "edge", "name", "one", "other"]) (sc := defScope sSteps) (by decide +kernel)) (fun _ _ _ _ _ => pg_name (i := 5) scSteps.nd rfl (Or.inl rfl))
        (fun _ _ _ _ _ => pts_one (pt_cmpR op_lt (pe_call GG hr (by rfl) gG FG.kp bG .nil pass0 (pa_cons (pv 1) (pa_cons (pv 5) pa_nil))) (pe_dget hu (pv 0) (pv 5) (fun _ _ => rfl)) (nomark _)))
        (fun _ _ _ _ _ => pv 5) (fun _ _ _ _ _ => pe_int))))
      (pss_cons (ps_set (i := 3) scSteps.nd rfl (Or.inl rfl) pe_int)
      (pss_cons (ps_set (i := 4) scSteps.nd rfl (Or.inr rfl) (pe_callB (call_sortedD rfl) (by rfl) ms (by decide +kernel) (pa_cons (pv 2) pa_nil)))
      (pss_cons (ps_while PassesOwn.never (pt_truth (pv 4) (by intro _; rfl))
        (pss_cons (ps_aug (i := 3) scSteps.nd rfl (.inl rfl) pe_int ip_add)
        (pss_cons (ps_set (i := 4) scSteps.nd rfl (Or.inr rfl) (pe_callB (Rl.call_sortX rfl) (by rfl) ms (by decide +kernel) (pa_cons (pe_lock (Rl.pe_scX (own := [("one", 6), ("other", 7)])
          (g := gTup K 2 (gCons (gName 6) (gCons (gName 7) gNil))) (tt := tAnd (tTest (tOp (rIn K false) (tVar 7) (tVar 4))) (tB (tDNotIn (tVar 6) (tVar 2)))) rfl scSteps.nd (pi_keys (pv 1))
          (blkOk_by (N := ["brims", "pipes", "steps", "far", "edge", "name", "one", "other"]) (sc := defScope sSteps) (by decide +kernel))
          (fun _ _ _ _ _ => pg_tup rfl (pgs_cons (pg_name (i := 6) scSteps.nd rfl (Or.inl rfl)) (pgs_cons (pg_name (i := 7) scSteps.nd rfl (Or.inl rfl)) pgs_nil)))
          (fun _ _ _ _ _ => pts_one (PW.pt (pw_and (pt_cmpR op_in_seq (pv 7) (pv 4) (by rfl)) (pw_and1 (pt_cmp (pc_dnotin hu (pv 6) (pv 2)))))))
          (fun _ _ _ _ _ => pv 6))) pa_nil)))
        (pss_one (ps_for PassesOwn.never rfl (pi_list (pv 4)) (pg_name (i := 5) scSteps.nd rfl (Or.inl rfl)) (pss_one (ps_dput hu (pv 2) (pv 5) (pv 3) rfl)))))))
      (pss_one (ps_ret (pv 2)))))), ?_⟩
    -- steps = {..}
    refine ⟨a, _, hA, trivial, fun od => ?_⟩
    refine ⟨.ref a, rfl, a, od, rfl, .inl ⟨_, upd_same, fun D nD => ?_⟩⟩
    have hDa : D ≠ a := fun e => by subst e; rw [upd_same] at nD; cases nD
    have nDH : H D = none := by rw [upd_ne hDa] at nD; exact nD
    have hba : b ≠ a := fun e => by subst e; rw [hA] at hB; cases hB
    refine Rl.gc_it (n := (bk B).length) (b0 := fun _ => .dK []) walk_keys (fun i H1 => H1 D = some (.dK (bk (soakers B Pp (B.take i)))) ∧ Same (upd H a (.frz od (.dK (bk B)))) H1) ⟨upd_same, same_new nD⟩ (fun i H1 _ h => h.2 a _ upd_same) ?_ ?_
    · rintro i x H1 H1' hi ⟨hD, sm⟩ ⟨rfl, kk, v, hkv, rfl⟩
      obtain ⟨p, hp, rfl, rfl⟩ := bk_at hkv
      have hm : p ∈ B := List.mem_of_getElem? hp
      have hB1 : H1' b = some (.dT (pt Pp)) := sm b _ (by rw [upd_ne hba]; exact hB)
      refine ⟨rfl, .ref b, rfl, .str p.1, rfl, b, Pp, p.1, rfl, hB1, wf.np, wf.lp, fun H2 s2 => ?_⟩
      refine ⟨.ref a, rfl, .str p.1, rfl, a, .int p.2, rfl, .inl ⟨_, Sum.inr p.1, .inr ⟨od, s2 a _ (sm a _ upd_same)⟩, rfl, ?_⟩, _, _, rfl, rfl, _, rfl, ?_⟩
      · rw [valV_bk, getB_of_mem wf.nb hm]; rfl
      · have il : i < B.length := (List.getElem?_eq_some_iff.mp hp).1
        have ndT : (nms (B.take i)).Nodup := List.Nodup.sublist (List.Sublist.map Prod.fst (List.take_sublist i B)) wf.nb
        have fresh : p.1 ∉ nms (B.take i) := by
          intro z
          have h2 : (nms (B.take (i + 1))).Nodup := List.Nodup.sublist (List.Sublist.map Prod.fst (List.take_sublist (i + 1) B)) wf.nb
          rw [List.take_add_one, hp] at h2
          have h3 : (nms (B.take i) ++ [p.1]).Nodup := by
            have := nms_append (B.take i) [p]
            rw [show (some p).toList = [p] from rfl, this] at h2
            exact h2
          rw [List.nodup_append] at h3
          exact h3.2.2 p.1 z p.1 (List.mem_singleton.mpr rfl) rfl
        refine ite2 (fun e => ?_) (fun e => ?_)
        · have e' : outW Pp p.1 < p.2 := of_decide_eq_true e
          have ns : p.1 ∉ nms (soakers B Pp (B.take i)) := fun z => by
            obtain ⟨c, hc, _⟩ := soakers_mem.mp z
            exact fresh (List.mem_map.mpr ⟨_, hc, rfl⟩)
          refine ⟨.str p.1, rfl, _, DPut.k (k := Sum.inr p.1) (s2 D _ hD) ?_, ?_, ?_⟩
          · rw [bk_len]
            refine small1000 (Nat.le_trans (?_ : _ ≤ B.length) (by have := wf.lb; omega))
            unfold soakers
            rw [List.length_map]
            refine Nat.le_trans (List.length_filter_le _ _) ?_
            rw [List.length_take]; omega
          · rw [upd_same, putK_bk ns, List.take_add_one, hp]
            unfold soakers
            rw [List.filter_append, List.map_append]
            show some (HO.dK (bk (_ ++ [(p.1, 0)]))) = some (HO.dK (bk (_ ++ List.map _ (List.filter _ [p]))))
            rw [List.filter_cons, if_pos (decide_eq_true e')]
            rfl
          · exact fun c o ec => by
              have nb : c ≠ D := ne_of_none ec nD
              rw [upd_ne nb]; exact s2 c o (sm c o ec)
        · refine ⟨?_, sm.trans s2⟩
          rw [s2 D _ hD, List.take_add_one, hp]
          unfold soakers
          rw [List.filter_append, List.map_append]
          show _ = some (HO.dK (bk (_ ++ List.map _ (List.filter _ [p]))))
          have e' : ¬ (decide (outW Pp p.1 < p.2) = true) := e
          rw [List.filter_cons, if_neg e']
          simp
    · rintro H1 ⟨hD, sm⟩
      obtain ⟨l1, sH⟩ := same_lock hA sm
      refine ⟨l1, ?_⟩
      rw [bk_len, List.take_length] at hD
      have hD2 : (upd H1 a (.dK (bk B))) D = some (.dK (bk (soakers B Pp B))) := by rw [upd_ne hDa]; exact hD
      obtain ⟨H2, hH2⟩ : ∃ H2, H2 = upd H1 a (.dK (bk B)) := ⟨_, rfl⟩
      rw [← hH2] at hD2 sH ⊢
      -- edge = sorted(steps)
      refine ⟨.ref D, rfl, D, _, nms (soakers B Pp B), rfl, .inl hD2, ?_, ?_, fun ys e0 pm _ ne0 => ?_⟩
      · unfold bk nms
        rw [List.map_map, List.map_map]; rfl
      · have h1 := len_le_of_sub (soakers_nd (B := B) (Pp := Pp) wf.nb) (m := nms B) (fun x hx => by
          obtain ⟨c, hc, _⟩ := soakers_mem.mp hx
          exact List.mem_map.mpr ⟨_, hc, rfl⟩)
        have h2 : (nms B).length = B.length := List.length_map _
        have := wf.lb
        omega
      have e0D : e0 ≠ D := Ne.symm (ne_of_none hD2 ne0)
      have bfs0 : Bfs B Pp (nms (soakers B Pp B)) ys :=
        ⟨soakers_nd wf.nb, fun x hx => by
            obtain ⟨c, hc, hl⟩ := soakers_mem.mp hx
            exact ⟨List.mem_map.mpr ⟨_, hc, rfl⟩, .soak hc hl⟩,
          fun x hx => pm.mem_iff.mp hx, fun x c hc hl => soakers_mem.mpr ⟨c, hc, hl⟩, fun x y w m hy => .inr (pm.mem_iff.mpr hy)⟩
      have lenS : ∀ {S E : Br} {E2 : List Str}, Bfs B Pp (nms S) E2 → S.length ≤ 12 := fun {S E E2} h => by
        have h1 := len_le_of_sub h.nd (m := nms B) (fun x hx => (h.sub x hx).1)
        have h2 : (nms B).length = B.length := List.length_map _
        have h3 : (nms S).length = S.length := List.length_map _
        have := wf.lb
        omega
      refine ⟨fun m σ H3 => ∃ (S : Br) (E2 : List Str) (far : Int) (e : Addr) (y5 y6 y7 : Option V), σ = [some (.ref a), some (.ref b), some (.ref D), some (.int far), some (.ref e), y5, y6, y7] ∧ Same H H3 ∧ H3 D = some (.dK (bk S)) ∧
        H3 e = some (.lst (E2.map V.str)) ∧ Bfs B Pp (nms S) E2 ∧ m = 2 * (12 - S.length) + (if E2 = [] then 0 else 1),
        ⟨_, soakers B Pp B, ys, 0, e0, none, none, none, rfl, sH.trans (same_new ne0), by rw [upd_ne (Ne.symm e0D)]; exact hD2, upd_same, bfs0, rfl⟩, ?_⟩
      rintro m σ H3 ⟨S, E2, far, e, y5, y6, y7, rfl, sm3, hD3, he3, bfs, rfl⟩
      have hlS : S.length ≤ 12 := lenS (E := []) bfs
      refine ⟨.ref e, rfl, !(E2.map V.str).isEmpty, .inl ⟨_, SqL.of he3, rfl⟩, ite2 (fun c => ?_) (fun c => ?_)⟩
      · have ne : E2 ≠ [] := fun z => by subst z; exact absurd c (by decide)
        refine ⟨fun σ' H' => ∃ m', m' < 2 * (12 - S.length) + (if E2 = [] then 0 else 1) ∧ ∃ (S : Br) (E2 : List Str) (far : Int) (e : Addr) (y5 y6 y7 : Option V), σ' = [some (.ref a), some (.ref b), some (.ref D), some (.int far), some (.ref e), y5, y6, y7] ∧ Same H H' ∧ H' D = some (.dK (bk S)) ∧
          H' e = some (.lst (E2.map V.str)) ∧ Bfs B Pp (nms S) E2 ∧ m' = 2 * (12 - S.length) + (if E2 = [] then 0 else 1), fun σ' H' h => h, ?_⟩
        -- far += 1
        refine ⟨.int far, rfl, far, 1, rfl, rfl, ?_⟩
        -- edge = sorted({..})
        have hB3 : H3 b = some (.dT (pt Pp)) := sm3 b _ hB
        refine ⟨b, _, hB3, trivial, fun od2 => ?_⟩
        refine ⟨.ref b, rfl, b, od2, rfl, .inr ⟨_, upd_same, fun D2 nD2 => ?_⟩⟩
        have hDb : D ≠ b := fun z => by subst z; rw [hD3] at hB3; cases hB3
        have heb : e ≠ b := fun z => by subst z; rw [he3] at hB3; cases hB3
        have hD2b : D2 ≠ b := fun z => by subst z; rw [upd_same] at nD2; cases nD2
        refine Rl.gc_it (n := (pt Pp).length) (b0 := fun D => Rl.SetX P w D []) walk_keysT (fun i H4 => ∃ l : List Str, H4 D2 = some (Rl.SetX P w D2 l) ∧ l.Nodup ∧
          (∀ x, x ∈ l ↔ (∃ y w, ((x, y), w) ∈ Pp.take i ∧ y ∈ E2) ∧ x ∉ nms S) ∧ Same (upd H3 b (.frz od2 (.dT (pt Pp)))) H4) ⟨[], upd_same, List.nodup_nil, fun x => ⟨fun h => (List.not_mem_nil h).elim, fun ⟨⟨y, w, h, _⟩, _⟩ => (List.not_mem_nil h).elim⟩, same_new nD2⟩
          (fun i H4 _ ⟨_, _, _, _, h⟩ => h b _ upd_same) ?_ ?_
        · rintro i x H4 H4' hi ⟨l, hl, ndl, ml, sm4⟩ ⟨rfl, kk, v, qq, hkv, rfl, hq⟩
          obtain ⟨p, hp, rfl, rfl⟩ := pt_at hkv
          have hm : p ∈ Pp := List.mem_of_getElem? hp
          have he4 : H4' e = some (.lst (E2.map V.str)) := sm4 e _ (by rw [upd_ne heb]; exact he3)
          have hD4 : H4' D = some (.dK (bk S)) := sm4 D _ (by rw [upd_ne hDb]; exact hD3)
          have lN : l.length ≤ 12 := by
            have h1 := len_le_of_sub ndl (m := nms B) (fun z hz => by
              obtain ⟨⟨y, w, h, _⟩, _⟩ := (ml z).mp hz
              exact (wf.rp _ (List.mem_of_mem_take h)).1)
            have h2 : (nms B).length = B.length := List.length_map _
            have := wf.lb
            omega
          have tk : Pp.take (i + 1) = Pp.take i ++ [p] := by rw [List.take_add_one, hp]; rfl
          refine ⟨qq, [.str p.1.1, .str p.1.2], rfl, SqT.of hq, rfl, .str p.1.1, [.str p.1.2], rfl, .str p.1.2, [], rfl, rfl, rfl, ?_⟩
          refine ⟨.str p.1.2, rfl, .ref e, rfl, e, E2.map V.str, rfl, .inl (SqL.of he4), rfl, flat_strs _, inV (.str p.1.2) (E2.map V.str), rfl, ?_⟩
          rw [inV_strs]
          have skip : ¬ (p.1.2 ∈ E2 ∧ p.1.1 ∉ nms S) → ∀ x, x ∈ l ↔ (∃ y w, ((x, y), w) ∈ Pp.take (i + 1) ∧ y ∈ E2) ∧ x ∉ nms S := by
            intro no x
            rw [ml x, tk]
            refine ⟨fun ⟨⟨y, w, h, hy⟩, n⟩ => ⟨⟨y, w, List.mem_append_left _ h, hy⟩, n⟩, fun ⟨⟨y, w, h, hy⟩, n⟩ => ?_⟩
            rcases List.mem_append.mp h with h | h
            · exact ⟨⟨y, w, h, hy⟩, n⟩
            · have h' : ((x, y), w) = p := by simpa using h
              exact absurd (show p.1.2 ∈ E2 ∧ p.1.1 ∉ nms S by rw [← h']; exact ⟨hy, n⟩) no
          refine ite2 (fun c1 => ?_) (fun c1 => ?_)
          · have c1' := of_decide_eq_true c1
            refine ⟨.str p.1.1, rfl, .ref D, rfl, D, _, rfl, .inl ⟨_, Sum.inr p.1.1, .inl hD4, rfl, rfl⟩, _, rfl, ?_⟩
            rw [valV_bk, getB_isSome]
            refine ite2 (fun c2 => ?_) (fun c2 => ?_)
            · have c2' : p.1.1 ∉ nms S := fun z => by rw [decide_eq_true z] at c2; cases c2
              refine ⟨.str p.1.1, rfl, p.1.1, l, rfl, hl, Nat.lt_of_le_of_lt (Nat.succ_le_succ lN) (by decide), _, upd_same, ?_, fun x => ?_, ?_⟩
              · split
                · exact ndl
                · exact List.nodup_cons.mpr ⟨by assumption, ndl⟩
              · have mem : x ∈ (if p.1.1 ∈ l then l else p.1.1 :: l) ↔ x = p.1.1 ∨ x ∈ l := by
                  split
                  · rename_i h
                    exact ⟨.inr, fun z => z.elim (fun e => e ▸ h) id⟩
                  · exact List.mem_cons
                rw [mem, ml x, tk]
                constructor
                · rintro (rfl | ⟨⟨y, w, h, hy⟩, n⟩)
                  · exact ⟨⟨p.1.2, p.2, List.mem_append_right _ (List.mem_singleton.mpr rfl), c1'⟩, c2'⟩
                  · exact ⟨⟨y, w, List.mem_append_left _ h, hy⟩, n⟩
                · rintro ⟨⟨y, w, h, hy⟩, n⟩
                  rcases List.mem_append.mp h with h | h
                  · exact .inr ⟨⟨y, w, h, hy⟩, n⟩
                  · have h' : ((x, y), w) = p := by simpa using h
                    exact .inl (by rw [← h'])
              · exact fun c o ec => by
                  have nb : c ≠ D2 := ne_of_none ec nD2
                  rw [upd_ne nb]; exact sm4 c o ec
            · refine ⟨l, hl, ndl, skip fun ⟨_, z⟩ => c2 (by rw [decide_eq_false z]; rfl), sm4⟩
          · exact iteF ⟨l, hl, ndl, skip fun ⟨z, _⟩ => c1 (decide_eq_true z), sm4⟩
        · rintro H4 ⟨l, hl, ndl, ml, sm4⟩
          obtain ⟨l1, s34⟩ := same_lock hB3 sm4
          refine ⟨l1, ?_⟩
          rw [show (pt Pp).length = Pp.length from List.length_map _, List.take_length] at ml
          have hl2 : (upd H4 b (.dT (pt Pp))) D2 = some (Rl.SetX P w D2 l) := by rw [upd_ne hD2b]; exact hl
          obtain ⟨H5, hH5⟩ : ∃ H5, H5 = upd H4 b (.dT (pt Pp)) := ⟨_, rfl⟩
          rw [← hH5] at hl2 s34 ⊢
          have lN : l.length ≤ 12 := by
            have h1 := len_le_of_sub ndl (m := nms B) (fun z hz => by
              obtain ⟨⟨y, w, h, _⟩, _⟩ := (ml z).mp hz
              exact (wf.rp _ h).1)
            have h2 : (nms B).length = B.length := List.length_map _
            have := wf.lb
            omega
          refine ⟨D2, l, rfl, hl2, by omega, fun ys2 e2 pm2 _ ne2 => ?_⟩
          have ndy : ys2.Nodup := pm2.nodup_iff.mpr ndl
          have hD5 : H5 D = some (.dK (bk S)) := s34 D _ hD3
          have e2D : e2 ≠ D := Ne.symm (ne_of_none hD5 ne2)
          have nb := bfs.next wf ndy (fun x => by rw [pm2.mem_iff]; exact ml x)
          have nD3 : ∀ x ∈ ys2, x ∉ nms S := fun x hx => ((ml x).mp (pm2.mem_iff.mp hx)).2
          -- for name in edge: steps[name] = far
          refine ⟨.ref e2, rfl, e2, rfl, ⟨_, SqL.of upd_same⟩, ?_⟩
          refine for_it (walk_list (K := K) (a := e2) (xs := ys2.map V.str)) (fun i σ H6 => ∃ y5 : Option V, σ = [some (.ref a), some (.ref b), some (.ref D), some (.int (far + 1)), some (.ref e2), y5, y6, y7] ∧ Same H H6 ∧
            H6 D = some (.dK (bk (S ++ (ys2.take i).map fun x => (x, far + 1)))) ∧ H6 e2 = some (.lst (ys2.map V.str))) ⟨y5, rfl, sm3.trans (s34.trans (same_new ne2)), ?_, upd_same⟩ (fun i σ H6 _ ⟨_, _, _, _, h⟩ => SqL.of h) ?_ ?_
          · rw [upd_ne (Ne.symm e2D)]
            show _ = some (HO.dK (bk (S ++ [])))
            rw [List.append_nil]; exact hD5
          · rintro i x σ H6 H6' hi ⟨y5', rfl, sm6, hD6, he6⟩ ⟨rfl, hx⟩
            rw [List.getElem?_map] at hx
            cases hy : ys2[i]? with
            | none => rw [hy] at hx; cases hx
            | some z =>
              rw [hy] at hx
              have hx' : V.str z = x := Option.some.inj hx
              subst hx'
              have fr : z ∉ nms (S ++ (ys2.take i).map fun x => (x, far + 1)) := by
                rw [nms_append]
                intro m
                rcases List.mem_append.mp m with m | m
                · exact nD3 z (List.mem_of_getElem? hy) m
                · unfold nms at m
                  rw [List.map_map] at m
                  have m' : z ∈ ys2.take i := by
                    obtain ⟨u, hu, eu⟩ := List.mem_map.mp m
                    have eu' : u = z := eu
                    rw [← eu']; exact hu
                  have h2 : (ys2.take (i + 1)).Nodup := List.Nodup.sublist (List.take_sublist _ _) ndy
                  rw [List.take_add_one, hy, List.nodup_append] at h2
                  exact h2.2.2 z m' z (List.mem_singleton.mpr rfl) rfl
              refine ⟨.int (far + 1), rfl, .ref D, rfl, .str z, rfl, D, _, rfl, DPut.k (k := Sum.inr z) hD6 ?_, ?_⟩
              · rw [bk_len, List.length_append, List.length_map, List.length_take]
                have := pm2.length_eq
                exact small1000 (by omega)
              · refine ⟨_, rfl, fun c o ec => ?_, ?_, ?_⟩
                · have nc : c ≠ D := ne_of_none ec nDH
                  rw [upd_ne nc]; exact sm6 c o ec
                · rw [upd_same, putK_bk fr, List.take_add_one, hy, List.map_append, List.append_assoc]; rfl
                · rw [upd_ne e2D]; exact he6
          · rintro σ H6 ⟨y5', rfl, sm6, hD6, he6⟩
            rw [List.length_map, List.take_length] at hD6
            have nbS : Bfs B Pp (nms (S ++ ys2.map fun x => (x, far + 1))) ys2 := by
              have e1 : nms (S ++ ys2.map fun x => (x, far + 1)) = nms S ++ ys2 := by
                rw [nms_append]
                unfold nms
                rw [List.map_map]
                congr 1
                exact List.map_id' ys2
              rw [e1]; exact nb
            refine ⟨_, ?_, S ++ ys2.map (fun x => (x, far + 1)), ys2, far + 1, e2, y5', y6, y7, rfl, sm6, hD6, he6, nbS, rfl⟩
            have hl3 := lenS (E := []) nbS
            rw [List.length_append, List.length_map] at hl3 ⊢
            rw [if_neg ne]
            by_cases z : ys2 = []
            · rw [if_pos z, z]
              show 2 * (12 - (S.length + 0)) + 0 < _
              omega
            · rw [if_neg z]
              have : 0 < ys2.length := List.length_pos_iff.mpr z
              omega
      · have z : E2 = [] := by
          cases E2 with
          | nil => rfl
          | cons x r => exact absurd rfl c
        subst z
        refine ⟨.ref D, rfl, q H3 D S sm3 nDH hD3 bfs.nd fun x => ⟨bfs.sub x, fun ⟨_, o⟩ => bfs.done (nm := Nm) o⟩⟩
end
end Nl
end
section
set_option maxHeartbeats 1000000
namespace Nl
open PySem PySem.Spec PyProof.Rows L2 Nt
section
variable {P : Program} {w : World} {K : PySem.W.Frag} {mg : Str → Option Value} {base : Heap}
theorem scCkPonds : FnScope ["brims", "name"] ["brims"] (defScope sCkPonds) := ⟨rfl, rfl, rfl, by decide +kernel, rfl, by decide +kernel, by decide +kernel⟩
def spCkPonds : Sp := fun vs H Q _ => ∃ (a : Addr) (B : Br) (Pp : Pi), vs = [.ref a] ∧ H a = some (.dK (bk B)) ∧ Wf Nm B Pp ∧ ∀ H', Same H H' → Q .non H'
theorem ok_ckPonds {f fN fM : Addr} {fd fdN fdM : FuncData} {tm : Tok} (F : Fun K "check_ponds" "check_ponds" sCkPonds f fd) (FN : Fun K "is_name" "is_name" sName fN fdN) (GN : FnOk P w K mg base CX0 1 fN fdN ["thing"] spName) (bN : Binds K fdN ["thing"] []) (gN : mg "is_name" = some (.ref fN))
    (FM : Fun K "is_measure" "is_measure" sMeas fM fdM) (GM : FnOk P w K mg base CX0 2 fM fdM ["thing"] spMeas) (bM : Binds K fdM ["thing"] []) (gM : mg "is_measure" = some (.ref fM)) (ml : mg "len" = none) (gP : mg "MOST_PONDS" = some (.int 12 tm)) :
    FnOk P w K mg base CX0 3 f fd ["brims"] spCkPonds := by
  refine F.ok scCkPonds (fun vs H Q E h => ?_) (fun cdv A outer s H vs Q E hr h => ?_)
  · obtain ⟨a, B, Pp, rfl, _⟩ := h
    rfl
  · obtain ⟨a, B, Pp, rfl, hA, wf, q⟩ := h
    have hr1 := hr.mono (show 1 ≤ 2 by decide)
    refine ⟨_, pss_cons (ps_lock (ps_for PassesOwn.never rfl (pi_keys (pv 0)) (pg_name (i := 1) scCkPonds.nd rfl (.inl rfl)) (pss_one (ps_if (pt_not (pt_val (pe_call GN hr1 (by rfl) gN FN.kp bN .nil pass0 (pa_cons (pv 1) pa_nil)))) (pss_one ps_never) pss_nil))))
      (pss_cons (ps_if (pt_cmpR op_gt (pe_callB call_lenD (by rfl) ml PySem.boot_len (pa_cons (pv 0) pa_nil)) (pe_glob (v := .int 12) rfl gP ⟨_, rfl⟩) (nomark _)) (pss_one ps_never) pss_nil)
      (pss_one (ps_lock (ps_for PassesOwn.never rfl (pi_keys (pv 0)) (pg_name (i := 1) scCkPonds.nd rfl (.inl rfl)) (pss_one (ps_if (pt_not (pt_val (pe_call GM hr (by rfl) gM FM.kp bM .nil pass0 (pa_cons (pe_dget (hu_of hr) (pv 0) (pv 1) (fun _ _ => rfl)) pa_nil)))) (pss_one ps_never) pss_nil)))))), ?_⟩
    refine ⟨a, _, hA, trivial, fun od => ?_⟩
    refine ⟨.ref a, rfl, a, od, rfl, .inl ⟨_, upd_same, ?_⟩⟩
    refine for_it (n := (bk B).length) walk_keys (fun i σ H1 => ∃ y : Option V, σ = [some (.ref a), y] ∧ Same (upd H a (.frz od (.dK (bk B)))) H1) ⟨none, rfl, Same.refl _⟩ (fun i σ H1 _ ⟨_, _, h⟩ => h a _ upd_same) ?_ ?_
    · rintro i x σ H1 H1' hi ⟨y, rfl, sm⟩ ⟨rfl, kk, v, hkv, rfl⟩
      obtain ⟨p, hp, rfl, rfl⟩ := bk_at hkv
      have hn := (wf.rb p (List.mem_of_getElem? hp)).1
      refine ⟨.str p.1, rfl, p.1, rfl, hn.sm.mono (by decide), fun H2 s2 => ?_⟩
      rw [show nameB p.1 = true from hn]
      exact ⟨true, rfl, iteF ⟨_, rfl, sm.trans s2⟩⟩
    · rintro σ H1 ⟨y, rfl, sm⟩
      obtain ⟨l1, s1⟩ := same_lock hA sm
      refine ⟨l1, ?_⟩
      have hA1 := s1 a _ hA
      obtain ⟨H2, hH2⟩ : ∃ H2, H2 = upd H1 a (.dK (bk B)) := ⟨_, rfl⟩
      rw [← hH2] at hA1 s1 ⊢
      refine ⟨.ref a, rfl, a, _, rfl, hA1, _, _, rfl, rfl, _, rfl, ?_⟩
      rw [bk_len, decide_eq_false (show ¬ ((B.length : Int) > 12) by have := wf.lb; omega)]
      refine iteF ?_
      refine ⟨a, _, hA1, trivial, fun od2 => ?_⟩
      refine ⟨.ref a, rfl, a, od2, rfl, .inl ⟨_, upd_same, ?_⟩⟩
      refine for_it (n := (bk B).length) walk_keys (fun i σ H3 => ∃ y : Option V, σ = [some (.ref a), y] ∧ Same (upd H2 a (.frz od2 (.dK (bk B)))) H3) ⟨y, rfl, Same.refl _⟩ (fun i σ H3 _ ⟨_, _, h⟩ => h a _ upd_same) ?_ ?_
      · rintro i x σ H3 H3' hi ⟨y, rfl, sm3⟩ ⟨rfl, kk, v, hkv, rfl⟩
        obtain ⟨p, hp, rfl, rfl⟩ := bk_at hkv
        have hm := List.mem_of_getElem? hp
        obtain ⟨_, b1, b2⟩ := wf.rb p hm
        refine ⟨.ref a, rfl, .str p.1, rfl, a, .int p.2, rfl, .inl ⟨_, Sum.inr p.1, .inr ⟨od2, sm3 a _ upd_same⟩, rfl, ?_⟩, p.2, rfl, b1, b2, true, rfl, iteF ⟨_, rfl, sm3⟩⟩
        rw [valV_bk, getB_of_mem wf.nb hm]; rfl
      · rintro σ H3 ⟨y, rfl, sm3⟩
        obtain ⟨l3, s3⟩ := same_lock hA1 sm3
        exact ⟨l3, q _ (s1.trans s3)⟩
theorem scCkPipes : FnScope ["brims", "pipes", "pair"] ["brims", "pipes"] (defScope sCkPipes) := ⟨rfl, rfl, rfl, by decide +kernel, rfl, by decide +kernel, by decide +kernel⟩
def spCk2 (F : Br → Pi → Prop) : Sp := fun vs H Q _ => ∃ (a b : Addr) (B : Br) (Pp : Pi), vs = [.ref a, .ref b] ∧ H a = some (.dK (bk B)) ∧ H b = some (.dT (pt Pp)) ∧ Wf Nm B Pp ∧ F B Pp ∧ ∀ H', Same H H' → Q .non H'
theorem ok_ckPipes {f fN fM : Addr} {fd fdN fdM : FuncData} (F : Fun K "check_pipes" "check_pipes" sCkPipes f fd) (FN : Fun K "is_pair_of" "is_pair_of" sPairOf fN fdN) (GN : FnOk P w K mg base CX0 3 fN fdN ["brims", "thing"] spPairOf) (bN : Binds K fdN ["brims", "thing"] []) (gN : mg "is_pair_of" = some (.ref fN))
    (FM : Fun K "is_measure" "is_measure" sMeas fM fdM) (GM : FnOk P w K mg base CX0 2 fM fdM ["thing"] spMeas) (bM : Binds K fdM ["thing"] []) (gM : mg "is_measure" = some (.ref fM)) :
    FnOk P w K mg base CX0 4 f fd ["brims", "pipes"] (spCk2 fun _ _ => True) := by
  refine F.ok scCkPipes (fun vs H Q E h => ?_) (fun cdv A outer s H vs Q E hr h => ?_)
  · obtain ⟨a, b, B, Pp, rfl, _⟩ := h
    rfl
  · obtain ⟨a, b, B, Pp, rfl, hA, hB, wf, _, q⟩ := h
    have hr2 := hr.mono (show 2 ≤ 3 by decide)
    refine ⟨_, pss_one (ps_lock (ps_for PassesOwn.never rfl (pi_keys (pv 1)) (pg_name (i := 2) scCkPipes.nd rfl (.inl rfl)) (pss_one (ps_if (PW.pt (pw_or (pt_not (pt_val (pe_call GN hr (by rfl) gN FN.kp bN .nil pass0 (pa_cons (pv 0) (pa_cons (pv 2) pa_nil)))))
      (pw_or1 (pt_not (pt_val (pe_call GM hr2 (by rfl) gM FM.kp bM .nil pass0 (pa_cons (pe_dget (hu_of hr) (pv 1) (pv 2) (fun _ _ => rfl)) pa_nil))))))) (pss_one ps_never) pss_nil)))), ?_⟩
    have hab : a ≠ b := fun z => by subst z; rw [hA] at hB; cases hB
    refine ⟨b, _, hB, trivial, fun od => ?_⟩
    refine ⟨.ref b, rfl, b, od, rfl, .inr ⟨_, upd_same, ?_⟩⟩
    refine for_it (n := (pt Pp).length) walk_keysT (fun i σ H1 => ∃ y : Option V, σ = [some (.ref a), some (.ref b), y] ∧ Same (upd H b (.frz od (.dT (pt Pp)))) H1) ⟨none, rfl, Same.refl _⟩ (fun i σ H1 _ ⟨_, _, h⟩ => h b _ upd_same) ?_ ?_
    · rintro i x σ H1 H1' hi ⟨y, rfl, sm⟩ ⟨rfl, kk, v, qq, hkv, rfl, hq⟩
      obtain ⟨p, hp, rfl, rfl⟩ := pt_at hkv
      have hm := List.mem_of_getElem? hp
      obtain ⟨m1, m2, ne, w1, w2⟩ := wf.rp p hm
      obtain ⟨p1, hp1, e1⟩ := List.mem_map.mp m1
      obtain ⟨p2, hp2, e2⟩ := List.mem_map.mp m2
      have n1 : Nm p.1.1 := by rw [← (show p1.1 = p.1.1 from e1)]; exact (wf.rb p1 hp1).1
      have n2 : Nm p.1.2 := by rw [← (show p2.1 = p.1.2 from e2)]; exact (wf.rb p2 hp2).1
      refine ⟨.ref a, rfl, .ref qq, rfl, a, qq, B, p.1.1, p.1.2, rfl, .inl (sm a _ (by rw [upd_ne hab]; exact hA)), hq, n1, n2, m1, m2, ne, fun H2 s2 => ⟨true, rfl, iteF ?_⟩⟩
      refine ⟨.ref b, rfl, .ref qq, rfl, b, .int p.2, rfl, .inr ⟨_, Rl.pk p.1, qq, .inr ⟨od, s2 b _ (sm b _ upd_same)⟩, rfl, s2 qq _ hq, ?_⟩, p.2, rfl, w1, w2, true, rfl, iteF ⟨_, rfl, sm.trans s2⟩⟩
      rw [valV_pt, getP_of_mem wf.np (show (p.1, p.2) ∈ Pp from hm)]; rfl
    · rintro σ H1 ⟨y, rfl, sm⟩
      obtain ⟨l1, s1⟩ := same_lock hB sm
      exact ⟨l1, q _ s1⟩
theorem scCkSides : FnScope ["brims", "pipes", "name"] ["brims", "pipes"] (defScope sCkSides) := ⟨rfl, rfl, rfl, by decide +kernel, rfl, by decide +kernel, by decide +kernel⟩
theorem ok_ckSides {f fN fM : Addr} {fd fdN fdM : FuncData} (F : Fun K "check_sides" "check_sides" sCkSides f fd) (FN : Fun K "goes_out" "goes_out" sGoes fN fdN) (GN : FnOk P w K mg base CX0 1 fN fdN ["pipes", "name"] spGoes) (bN : Binds K fdN ["pipes", "name"] []) (gN : mg "goes_out" = some (.ref fN))
    (FM : Fun K "comes_in" "comes_in" sComes fM fdM) (GM : FnOk P w K mg base CX0 1 fM fdM ["pipes", "name"] spComes) (bM : Binds K fdM ["pipes", "name"] []) (gM : mg "comes_in" = some (.ref fM)) (ms : mg "sorted" = none) :
    FnOk P w K mg base CX0 2 f fd ["brims", "pipes"] (spCk2 Fit) := by
  refine F.ok scCkSides (fun vs H Q E h => ?_) (fun cdv A outer s H vs Q E hr h => ?_)
  · obtain ⟨a, b, B, Pp, rfl, _⟩ := h
    rfl
  · obtain ⟨a, b, B, Pp, rfl, hA, hB, wf, fit, q⟩ := h
    have hu := hu_of hr
    refine ⟨_, pss_one (ps_for PassesOwn.never rfl (pi_list (pe_callB (call_sortedD rfl) (by rfl) ms (by decide +kernel) (pa_cons (pv 0) pa_nil))) (pg_name (i := 2) scCkSides.nd rfl (.inl rfl))
      (pss_cons (ps_if (pt_cmpR op_gt (pe_call GN hr (by rfl) gN FN.kp bN .nil pass0 (pa_cons (pv 1) (pa_cons (pv 2) pa_nil))) (pe_dget hu (pv 0) (pv 2) (fun _ _ => rfl)) (nomark _)) (pss_one ps_never) pss_nil)
      (pss_one (ps_if (pt_cmpR op_gt (pe_call GM hr (by rfl) gM FM.kp bM .nil pass0 (pa_cons (pv 1) (pa_cons (pv 2) pa_nil))) (pe_dget hu (pv 0) (pv 2) (fun _ _ => rfl)) (nomark _)) (pss_one ps_never) pss_nil)))), ?_⟩
    refine ⟨.ref a, rfl, a, _, nms B, rfl, .inl hA, ?_, ?_, fun ys e pm _ ne => ?_⟩
    · unfold bk nms
      rw [List.map_map, List.map_map]; rfl
    · show (B.map _).length < 64
      rw [List.length_map]; have := wf.lb; omega
    refine ⟨e, rfl, ⟨_, SqL.of upd_same⟩, ?_⟩
    refine for_it (walk_list (K := K) (a := e) (xs := ys.map V.str)) (fun i σ H1 => ∃ y : Option V, σ = [some (.ref a), some (.ref b), y] ∧ Same (upd H e (.lst (ys.map V.str))) H1) ⟨none, rfl, Same.refl _⟩ (fun i σ H1 _ ⟨_, _, h⟩ => SqL.of (h e _ upd_same)) ?_ ?_
    · rintro i x σ H1 H1' hi ⟨y, rfl, sm⟩ ⟨rfl, hx⟩
      rw [List.getElem?_map] at hx
      cases hy : ys[i]? with
      | none => rw [hy] at hx; cases hx
      | some z =>
        rw [hy] at hx
        have hx' : V.str z = x := Option.some.inj hx
        subst hx'
        obtain ⟨p, hp, ez⟩ := List.mem_map.mp (pm.mem_iff.mp (List.mem_of_getElem? hy))
        have ez' : p.1 = z := ez
        obtain ⟨f1, f2⟩ := fit p hp
        rw [ez'] at f1 f2
        have gz : getB B z = some p.2 := getB_of_mem wf.nb (by rw [← ez']; exact hp)
        have sA := (same_new (o := .lst (ys.map V.str)) ne).trans sm
        refine ⟨.ref b, rfl, .str z, rfl, b, Pp, z, rfl, sA b _ hB, wf.np, wf.lp, fun H2 s2 => ?_⟩
        refine ⟨.ref a, rfl, .str z, rfl, a, .int p.2, rfl, .inl ⟨_, Sum.inr z, .inl (s2 a _ (sA a _ hA)), rfl, by rw [valV_bk, gz]; rfl⟩, _, _, rfl, rfl, _, rfl, ?_⟩
        rw [decide_eq_false (show ¬ (outW Pp z > p.2) by omega)]
        refine iteF ?_
        refine ⟨.ref b, rfl, .str z, rfl, b, Pp, z, rfl, s2 b _ (sA b _ hB), wf.np, wf.lp, fun H3 s3 => ?_⟩
        refine ⟨.ref a, rfl, .str z, rfl, a, .int p.2, rfl, .inl ⟨_, Sum.inr z, .inl (s3 a _ (s2 a _ (sA a _ hA))), rfl, by rw [valV_bk, gz]; rfl⟩, _, _, rfl, rfl, _, rfl, ?_⟩
        rw [decide_eq_false (show ¬ (inW Pp z > p.2) by omega)]
        exact iteF ⟨_, rfl, sm.trans (s2.trans s3)⟩
    · rintro σ H1 ⟨y, rfl, sm⟩
      exact q _ ((same_new ne).trans sm)
theorem scCkWays : FnScope ["brims", "pipes", "steps", "closed", "name"] ["brims", "pipes"] (defScope sCkWays) := ⟨rfl, rfl, rfl, by decide +kernel, rfl, by decide +kernel, by decide +kernel⟩
theorem ok_ckWays {f fN : Addr} {fd fdN : FuncData} (F : Fun K "check_ways" "check_ways" sCkWays f fd) (FN : Fun K "steps_out" "steps_out" sSteps fN fdN) (GN : FnOk P w K mg base CX0 2 fN fdN ["brims", "pipes"] spSteps) (bN : Binds K fdN ["brims", "pipes"] []) (gN : mg "steps_out" = some (.ref fN)) (ms : mg "sorted" = none) :
    FnOk P w K mg base CX0 3 f fd ["brims", "pipes"] (spCk2 fun B Pp => ∀ x ∈ nms B, Opn B Pp x) := by
  refine F.ok scCkWays (fun vs H Q E h => ?_) (fun cdv A outer s H vs Q E hr h => ?_)
  · obtain ⟨a, b, B, Pp, rfl, _⟩ := h
    rfl
  · obtain ⟨a, b, B, Pp, rfl, hA, hB, wf, op, q⟩ := h
    refine ⟨_, pss_cons (ps_set (i := 2) scCkWays.nd rfl (.inr rfl) (pe_call GN hr (by rfl) gN FN.kp bN .nil pass0 (pa_cons (pv 0) (pa_cons (pv 1) pa_nil))))
      (pss_cons (ps_setLc (i := 3) (own := [("name", 4)]) (g := gName 4) rfl scCkWays.nd rfl rfl (sw_true rfl rfl rfl (by decide +kernel)) (pi_list (pe_callB (call_sortedD rfl) (by rfl) ms (by decide +kernel) (pa_cons (pv 0) pa_nil)))
        (blkOk_by (N := ["brims", "pipes", "steps", "closed", "name"]) (sc := defScope sCkWays) (by decide +kernel)) (fun _ _ _ _ _ => pg_name (i := 4) scCkWays.nd rfl (Or.inl rfl))
        (fun _ _ _ _ _ => pts_one (pt_cmp (pc_dnotin (hu_of hr) (pv 4) (pv 2)))) (fun _ _ _ _ _ => pv 4))
      (pss_one (ps_if (pt_truth (pv 3) (by intro _; rfl)) (pss_one ps_never) pss_nil))), ?_⟩
    refine ⟨.ref a, rfl, .ref b, rfl, a, b, B, Pp, rfl, hA, hB, wf, fun H1 p S s1 np hp ndS mS => ?_⟩
    refine ⟨.ref a, rfl, a, _, nms B, rfl, .inl (s1 a _ hA), ?_, ?_, fun ys e pm _ ne => ?_⟩
    · unfold bk nms
      rw [List.map_map, List.map_map]; rfl
    · show (B.map _).length < 64
      rw [List.length_map]; have := wf.lb; omega
    have sE := same_new (o := .lst (ys.map V.str)) ne
    refine ⟨e, rfl, ⟨_, SqL.of upd_same⟩, fun D nD => ?_⟩
    refine lc_it (walk_list (K := K) (a := e) (xs := ys.map V.str)) (fun i H2 => H2 D = some (.lst []) ∧ Same (upd H1 e (.lst (ys.map V.str))) H2) ⟨upd_same, same_new nD⟩ (fun i H2 _ h => SqL.of (h.2 e _ upd_same)) ?_ ?_
    · rintro i x H2 H2' hi ⟨hD, sm⟩ ⟨rfl, hx⟩
      rw [List.getElem?_map] at hx
      cases hy : ys[i]? with
      | none => rw [hy] at hx; cases hx
      | some z =>
        rw [hy] at hx
        have hx' : V.str z = x := Option.some.inj hx
        subst hx'
        have mz : z ∈ nms B := pm.mem_iff.mp (List.mem_of_getElem? hy)
        have mz2 : z ∈ nms S := (mS z).mpr ⟨mz, op z mz⟩
        refine ⟨rfl, .str z, rfl, .ref p, rfl, p, _, rfl, .inl ⟨_, Sum.inr z, .inl (sm p _ (sE p _ hp)), rfl, rfl⟩, _, rfl, ?_⟩
        rw [valV_bk, getB_isSome, decide_eq_true mz2]
        exact iteF ⟨hD, sm⟩
    · rintro H2 ⟨hD, sm⟩
      refine ⟨.ref D, rfl, false, .inl ⟨[], SqL.of hD, rfl⟩, iteF ?_⟩
      exact q _ (s1.trans (sE.trans sm))
end
end Nl
end
section
set_option maxHeartbeats 1000000
namespace Nl
open PySem PySem.Spec PyProof.Rows L2 Nt
/-- what ins tells -/
def insOf (Pp : Pi) (z : Str) : List (Str × Int) := (Pp.filter fun p => decide (p.1.2 = z)).map fun p => (p.1.1, p.2)
/-- what outs tells -/
def outsOf (Pp : Pi) (z : Str) : List (Str × Int) := (Pp.filter fun p => decide (p.1.1 = z)).map fun p => (p.1.2, p.2)
/-- a list of tuples (a text, a number) stands there -/
def PairsAt (H : Hp) (as : List Addr) (l : List (Str × Int)) : Prop := as.length = l.length ∧ ∀ (i : Nat) (p : Str × Int), l[i]? = some p → ∃ q, as[i]? = some q ∧ H q = some (.tup [.str p.1, .int p.2])
theorem PairsAt.same {H H' : Hp} {as : List Addr} {l : List (Str × Int)} (h : PairsAt H as l) (s : Same H H') : PairsAt H' as l := ⟨h.1, fun i p e => by
  obtain ⟨q, e1, e2⟩ := h.2 i p e
  exact ⟨q, e1, s _ _ e2⟩⟩
theorem PairsAt.keep {H H' : Hp} {as : List Addr} {l : List (Str × Int)} (h : PairsAt H as l) (s : ∀ b xs, H b = some (.tup xs) → H' b = some (.tup xs)) : PairsAt H' as l := ⟨h.1, fun i p e => by
  obtain ⟨q, e1, e2⟩ := h.2 i p e
  exact ⟨q, e1, s _ _ e2⟩⟩
theorem PairsAt.push {H H' : Hp} {as : List Addr} {l : List (Str × Int)} {q : Addr} {p : Str × Int} (h : PairsAt H as l) (s : ∀ b xs, H b = some (.tup xs) → H' b = some (.tup xs)) (hq : H' q = some (.tup [.str p.1, .int p.2])) : PairsAt H' (as ++ [q]) (l ++ [p]) := by
  refine ⟨by rw [List.length_append, List.length_append, h.1]; rfl, fun i p' e => ?_⟩
  by_cases hi : i < l.length
  · rw [List.getElem?_append_left hi] at e
    obtain ⟨q', e1, e2⟩ := h.2 i p' e
    exact ⟨q', by rw [List.getElem?_append_left (by rw [h.1]; exact hi)]; exact e1, s _ _ e2⟩
  · rw [List.getElem?_append_right (by omega)] at e
    have hl : i - l.length = 0 := by
      cases hh : i - l.length with
      | zero => rfl
      | succ k => rw [hh] at e; simp at e
    rw [hl] at e
    have ep : p = p' := Option.some.inj e
    subst ep
    refine ⟨q, ?_, hq⟩
    rw [List.getElem?_append_right (by rw [h.1]; omega), h.1, hl]; rfl
/-- what an expression has made is locked for good: read, never written -/
def tFrz (t : TE) : TE := fun σ H Q => t σ H fun v H1 => ∃ d u, H1 d = some u ∧ Mut (some u) ∧ ∀ od, Q v (upd H1 d (.frz od u))
theorem pe_frz {X : Cx} {e : Expr} {t : TE} (h : PE X e t) : PE X e (tFrz t) := by
  refine ⟨fun pins s σ H Q I hw => ?_⟩
  refine thn (h.run pins s σ _ _ I hw) fun v s1 ⟨x, H1, I2, r, d, u, hd, mu, q⟩ => ?_
  obtain ⟨od, I3⟩ := I2.lock hd mu
  exact ⟨x, _, I3, r, q od⟩
section
variable {P : Program} {w : World} {K : PySem.W.Frag} {mg : Str → Option Value} {base : Heap}
def spSide (g : Pi → Str → List (Str × Int)) : Sp := fun vs H Q _ => ∃ (a : Addr) (Pp : Pi) (z : Str), vs = [.ref a, .str z] ∧ H a = some (.dT (pt Pp)) ∧ (Pp.map Prod.fst).Nodup ∧ Pp.length ≤ 200 ∧
  ∀ H' p as od, Same H H' → H p = none → H' p = some (.frz od (.lst (as.map V.ref))) → PairsAt H' as (g Pp z) → Q (.ref p) H'
theorem scPipesOut : FnScope ["pipes", "name", "one", "other"] ["pipes", "name"] (defScope sPipesOut) := ⟨rfl, rfl, rfl, by decide +kernel, rfl, by decide +kernel, by decide +kernel⟩
theorem ok_PipesOut {f : Addr} {fd : FuncData} {k : Nat} (F : Fun K "pipes_out" "pipes_out" sPipesOut f fd) : FnOk P w K mg base CX0 (k + 1) f fd ["pipes", "name"] (spSide outsOf) := by
  refine F.ok scPipesOut (fun vs H Q E h => ?_) (fun cdv A outer s H vs Q E hr h => ?_)
  · obtain ⟨a, Pp, z, rfl, _⟩ := h
    rfl
  · obtain ⟨a, Pp, z, rfl, hA, nd, hl, q⟩ := h
    refine ⟨_, pss_one (ps_ret (pe_frz (pe_lock (pe_lc (own := [("one", 2), ("other", 3)]) (g := gTup K 2 (gCons (gName 2) (gCons (gName 3) gNil)))
      (tt := tTest (tOp rEq (tVar 2) (tVar 1))) (te := tTup (tCons (tVar 3) (tCons (tDGet (tVar 0) (tTup (tCons (tVar 2) (tCons (tVar 3) tNil)))) tNil))) rfl scPipesOut.nd (pi_keys (pv 0))
      (blkOk_by (N := ["pipes", "name", "one", "other"]) (sc := defScope sPipesOut) (by decide +kernel)) (fun _ _ _ _ _ => pg_tup rfl (pgs_cons (pg_name (i := 2) scPipesOut.nd rfl (Or.inl rfl)) (pgs_cons (pg_name (i := 3) scPipesOut.nd rfl (Or.inl rfl)) pgs_nil)))
      (fun _ _ _ _ _ => pts_one (pt_cmpR op_eq (pv 2) (pv 1) (nomark _)))
      (fun _ _ _ _ _ => pe_tup (pa_cons (pv 3) (pa_cons (pe_dget (hu_of hr) (pv 0) (pe_tup (pa_cons (pv 2) (pa_cons (pv 3) pa_nil))) (fun _ _ => rfl)) pa_nil))))))), ?_⟩
    refine ⟨a, _, hA, trivial, fun od => ?_⟩
    refine ⟨.ref a, rfl, a, od, rfl, .inr ⟨_, upd_same, fun D nD => ?_⟩⟩
    have hDd : D ≠ a := fun e => by subst e; rw [upd_same] at nD; cases nD
    have nDH : H D = none := by rw [upd_ne hDd] at nD; exact nD
    refine lc_it (n := (pt Pp).length) walk_keysT (fun i H2 => ∃ as, H2 D = some (.lst (as.map V.ref)) ∧ PairsAt H2 as (outsOf (Pp.take i) z) ∧ Same (upd H a (.frz od (.dT (pt Pp)))) H2)
      ⟨[], upd_same, ⟨rfl, fun i p e => by simp [outsOf] at e⟩, same_new nD⟩ (fun i H2 _ ⟨_, _, _, h⟩ => h a _ upd_same) ?_ ?_
    · rintro i x H2 H2' hi ⟨as, hD, hP, sm⟩ ⟨rfl, kk, v, qq, hkv, rfl, hq⟩
      obtain ⟨p, hp, rfl, rfl⟩ := pt_at hkv
      have hm := List.mem_of_getElem? hp
      have tk : Pp.take (i + 1) = Pp.take i ++ [p] := by rw [List.take_add_one, hp]; rfl
      have lA : as.length ≤ 200 := by
        rw [hP.1]
        unfold outsOf
        rw [List.length_map]
        refine Nat.le_trans (List.length_filter_le _ _) ?_
        rw [List.length_take]; omega
      refine ⟨qq, [.str p.1.1, .str p.1.2], rfl, SqT.of hq, rfl, .str p.1.1, [.str p.1.2], rfl, .str p.1.2, [], rfl, rfl, rfl, ?_⟩
      refine ⟨.str p.1.1, rfl, .str z, rfl, rfl, _, rfl, ?_⟩
      rw [decStr]
      refine ite2 (fun e => ?_) (fun e => ?_)
      · refine ⟨.str p.1.2, rfl, .ref a, rfl, .str p.1.1, rfl, .str p.1.2, rfl, (by show 2 ≤ sizeLine; decide), fun t1 nt1 => ?_⟩
        have sT1 := same_new (o := .tup [.str p.1.1, .str p.1.2]) nt1
        refine ⟨a, .int p.2, rfl, .inr ⟨_, Rl.pk p.1, t1, .inr ⟨od, sT1 a _ (sm a _ upd_same)⟩, rfl, upd_same, ?_⟩, (by show 2 ≤ sizeLine; decide), fun t nt => ?_⟩
        · rw [valV_pt, getP_of_mem nd (show (p.1, p.2) ∈ Pp from hm)]; rfl
        · have hD1 := sT1 D _ hD
          have nDt : D ≠ t := ne_of_none hD1 nt
          refine ⟨_, (by rw [upd_ne nDt]; exact hD1), (by rw [List.length_map]; exact small1000 (by omega)), as ++ [t], ?_, ?_, ?_⟩
          · rw [upd_same, List.map_append]; rfl
          · rw [tk]
            unfold outsOf
            rw [List.filter_append, List.map_append]
            show PairsAt _ _ (_ ++ List.map _ (List.filter _ [p]))
            rw [List.filter_cons, if_pos e]
            refine PairsAt.push (p := (p.1.2, p.2)) (hP.same sT1) (fun b xs eb => ?_) (by rw [upd_ne (Ne.symm nDt), upd_same])
            have nb : b ≠ D := fun z => by subst z; rw [hD1] at eb; cases eb
            rw [upd_ne nb, upd_ne (ne_of_none eb nt)]; exact eb
          · exact fun c o ec => by
              have nb : c ≠ D := ne_of_none ec nD
              have e1 := sT1 c o (sm c o ec)
              rw [upd_ne nb, upd_ne (ne_of_none e1 nt)]; exact e1
      · refine ⟨as, hD, ?_, sm⟩
        rw [tk]
        unfold outsOf
        rw [List.filter_append, List.map_append]
        show PairsAt _ _ (_ ++ List.map _ (List.filter _ [p]))
        rw [List.filter_cons, if_neg e]
        simpa [outsOf] using hP
    · rintro H2 ⟨as, hD, hP, sm⟩
      obtain ⟨l1, l2⟩ := same_lock hA sm
      refine ⟨l1, ?_⟩
      rw [show (pt Pp).length = Pp.length from List.length_map _, List.take_length] at hP
      have hD3 : (upd H2 a (.dT (pt Pp))) D = some (.lst (as.map V.ref)) := by rw [upd_ne hDd]; exact hD
      refine ⟨D, _, hD3, trivial, fun od2 => ?_⟩
      refine q _ D as od2 (fun c o ec => ?_) nDH upd_same ⟨hP.1, fun i p e => ?_⟩
      · rw [upd_ne (ne_of_none ec nDH)]; exact l2 c o ec
      obtain ⟨t, e1, e2⟩ := hP.2 i p e
      refine ⟨t, e1, ?_⟩
      have nt : t ≠ a := fun z => by subst z; rw [l1] at e2; cases e2
      have nt2 : t ≠ D := fun z => by subst z; rw [hD] at e2; cases e2
      rw [upd_ne nt2, upd_ne nt]; exact e2
theorem scPipesIn : FnScope ["pipes", "name", "one", "other"] ["pipes", "name"] (defScope sPipesIn) := ⟨rfl, rfl, rfl, by decide +kernel, rfl, by decide +kernel, by decide +kernel⟩
theorem ok_PipesIn {f : Addr} {fd : FuncData} {k : Nat} (F : Fun K "pipes_in" "pipes_in" sPipesIn f fd) : FnOk P w K mg base CX0 (k + 1) f fd ["pipes", "name"] (spSide insOf) := by
  refine F.ok scPipesIn (fun vs H Q E h => ?_) (fun cdv A outer s H vs Q E hr h => ?_)
  · obtain ⟨a, Pp, z, rfl, _⟩ := h
    rfl
  · obtain ⟨a, Pp, z, rfl, hA, nd, hl, q⟩ := h
    refine ⟨_, pss_one (ps_ret (pe_frz (pe_lock (pe_lc (own := [("one", 2), ("other", 3)]) (g := gTup K 2 (gCons (gName 2) (gCons (gName 3) gNil)))
      (tt := tTest (tOp rEq (tVar 3) (tVar 1))) (te := tTup (tCons (tVar 2) (tCons (tDGet (tVar 0) (tTup (tCons (tVar 2) (tCons (tVar 3) tNil)))) tNil))) rfl scPipesIn.nd (pi_keys (pv 0))
      (blkOk_by (N := ["pipes", "name", "one", "other"]) (sc := defScope sPipesIn) (by decide +kernel)) (fun _ _ _ _ _ => pg_tup rfl (pgs_cons (pg_name (i := 2) scPipesIn.nd rfl (Or.inl rfl)) (pgs_cons (pg_name (i := 3) scPipesIn.nd rfl (Or.inl rfl)) pgs_nil)))
      (fun _ _ _ _ _ => pts_one (pt_cmpR op_eq (pv 3) (pv 1) (nomark _)))
      (fun _ _ _ _ _ => pe_tup (pa_cons (pv 2) (pa_cons (pe_dget (hu_of hr) (pv 0) (pe_tup (pa_cons (pv 2) (pa_cons (pv 3) pa_nil))) (fun _ _ => rfl)) pa_nil))))))), ?_⟩
    refine ⟨a, _, hA, trivial, fun od => ?_⟩
    refine ⟨.ref a, rfl, a, od, rfl, .inr ⟨_, upd_same, fun D nD => ?_⟩⟩
    have hDd : D ≠ a := fun e => by subst e; rw [upd_same] at nD; cases nD
    have nDH : H D = none := by rw [upd_ne hDd] at nD; exact nD
    refine lc_it (n := (pt Pp).length) walk_keysT (fun i H2 => ∃ as, H2 D = some (.lst (as.map V.ref)) ∧ PairsAt H2 as (insOf (Pp.take i) z) ∧ Same (upd H a (.frz od (.dT (pt Pp)))) H2)
      ⟨[], upd_same, ⟨rfl, fun i p e => by simp [insOf] at e⟩, same_new nD⟩ (fun i H2 _ ⟨_, _, _, h⟩ => h a _ upd_same) ?_ ?_
    · rintro i x H2 H2' hi ⟨as, hD, hP, sm⟩ ⟨rfl, kk, v, qq, hkv, rfl, hq⟩
      obtain ⟨p, hp, rfl, rfl⟩ := pt_at hkv
      have hm := List.mem_of_getElem? hp
      have tk : Pp.take (i + 1) = Pp.take i ++ [p] := by rw [List.take_add_one, hp]; rfl
      have lA : as.length ≤ 200 := by
        rw [hP.1]
        unfold insOf
        rw [List.length_map]
        refine Nat.le_trans (List.length_filter_le _ _) ?_
        rw [List.length_take]; omega
      refine ⟨qq, [.str p.1.1, .str p.1.2], rfl, SqT.of hq, rfl, .str p.1.1, [.str p.1.2], rfl, .str p.1.2, [], rfl, rfl, rfl, ?_⟩
      refine ⟨.str p.1.2, rfl, .str z, rfl, rfl, _, rfl, ?_⟩
      rw [decStr]
      refine ite2 (fun e => ?_) (fun e => ?_)
      · refine ⟨.str p.1.1, rfl, .ref a, rfl, .str p.1.1, rfl, .str p.1.2, rfl, (by show 2 ≤ sizeLine; decide), fun t1 nt1 => ?_⟩
        have sT1 := same_new (o := .tup [.str p.1.1, .str p.1.2]) nt1
        refine ⟨a, .int p.2, rfl, .inr ⟨_, Rl.pk p.1, t1, .inr ⟨od, sT1 a _ (sm a _ upd_same)⟩, rfl, upd_same, ?_⟩, (by show 2 ≤ sizeLine; decide), fun t nt => ?_⟩
        · rw [valV_pt, getP_of_mem nd (show (p.1, p.2) ∈ Pp from hm)]; rfl
        · have hD1 := sT1 D _ hD
          have nDt : D ≠ t := ne_of_none hD1 nt
          refine ⟨_, (by rw [upd_ne nDt]; exact hD1), (by rw [List.length_map]; exact small1000 (by omega)), as ++ [t], ?_, ?_, ?_⟩
          · rw [upd_same, List.map_append]; rfl
          · rw [tk]
            unfold insOf
            rw [List.filter_append, List.map_append]
            show PairsAt _ _ (_ ++ List.map _ (List.filter _ [p]))
            rw [List.filter_cons, if_pos e]
            refine PairsAt.push (p := (p.1.1, p.2)) (hP.same sT1) (fun b xs eb => ?_) (by rw [upd_ne (Ne.symm nDt), upd_same])
            have nb : b ≠ D := fun z => by subst z; rw [hD1] at eb; cases eb
            rw [upd_ne nb, upd_ne (ne_of_none eb nt)]; exact eb
          · exact fun c o ec => by
              have nb : c ≠ D := ne_of_none ec nD
              have e1 := sT1 c o (sm c o ec)
              rw [upd_ne nb, upd_ne (ne_of_none e1 nt)]; exact e1
      · refine ⟨as, hD, ?_, sm⟩
        rw [tk]
        unfold insOf
        rw [List.filter_append, List.map_append]
        show PairsAt _ _ (_ ++ List.map _ (List.filter _ [p]))
        rw [List.filter_cons, if_neg e]
        simpa [insOf] using hP
    · rintro H2 ⟨as, hD, hP, sm⟩
      obtain ⟨l1, l2⟩ := same_lock hA sm
      refine ⟨l1, ?_⟩
      rw [show (pt Pp).length = Pp.length from List.length_map _, List.take_length] at hP
      have hD3 : (upd H2 a (.dT (pt Pp))) D = some (.lst (as.map V.ref)) := by rw [upd_ne hDd]; exact hD
      refine ⟨D, _, hD3, trivial, fun od2 => ?_⟩
      refine q _ D as od2 (fun c o ec => ?_) nDH upd_same ⟨hP.1, fun i p e => ?_⟩
      · rw [upd_ne (ne_of_none ec nDH)]; exact l2 c o ec
      obtain ⟨t, e1, e2⟩ := hP.2 i p e
      refine ⟨t, e1, ?_⟩
      have nt : t ≠ a := fun z => by subst z; rw [l1] at e2; cases e2
      have nt2 : t ≠ D := fun z => by subst z; rw [hD] at e2; cases e2
      rw [upd_ne nt2, upd_ne nt]; exact e2
end
end Nl
end
section
set_option maxHeartbeats 1000000
namespace Nl
open PySem PySem.Spec PyProof.Rows L2 Nt
/-! ### the object -/
theorem bw : ¬ (("brim_by_pond" : Str) = "width_by_pair") := by decide +kernel
theorem bo : ¬ (("brim_by_pond" : Str) = "outs_by_pond") := by decide +kernel
theorem bi : ¬ (("brim_by_pond" : Str) = "ins_by_pond") := by decide +kernel
theorem wo : ¬ (("width_by_pair" : Str) = "outs_by_pond") := by decide +kernel
theorem wi : ¬ (("width_by_pair" : Str) = "ins_by_pond") := by decide +kernel
theorem oi : ¬ (("outs_by_pond" : Str) = "ins_by_pond") := by decide +kernel
/-- where a net's other dicts stand: widths, outs, ins -/
structure Dd where
  w : Addr
  o : Addr
  i : Addr
def nf (d1 : Addr) (d2 : Dd) : List (Str × V) := putF "ins_by_pond" (.ref d2.i) (putF "outs_by_pond" (.ref d2.o) (putF "width_by_pair" (.ref d2.w) (putF "brim_by_pond" (.ref d1) [])))
theorem nf_b (d1 : Addr) (d2 : Dd) : (nf d1 d2).lookup ("brim_by_pond" : Str) = some (.ref d1) := by
  unfold nf
  rw [lookup_putF, if_neg bi, lookup_putF, if_neg bo, lookup_putF, if_neg bw, lookup_putF, if_pos rfl]
theorem nf_w (d1 : Addr) (d2 : Dd) : (nf d1 d2).lookup ("width_by_pair" : Str) = some (.ref d2.w) := by
  unfold nf
  rw [lookup_putF, if_neg wi, lookup_putF, if_neg wo, lookup_putF, if_pos rfl]
theorem nf_o (d1 : Addr) (d2 : Dd) : (nf d1 d2).lookup ("outs_by_pond" : Str) = some (.ref d2.o) := by
  unfold nf
  rw [lookup_putF, if_neg oi, lookup_putF, if_pos rfl]
theorem nf_i (d1 : Addr) (d2 : Dd) : (nf d1 d2).lookup ("ins_by_pond" : Str) = some (.ref d2.i) := by
  unfold nf
  rw [lookup_putF, if_pos rfl]
theorem nf_no (d1 : Addr) (d2 : Dd) {m : Str} (h1 : ¬ m = "width_by_pair") (h2 : ¬ m = "brim_by_pond") (h3 : ¬ m = "outs_by_pond") (h4 : ¬ m = "ins_by_pond") : (nf d1 d2).lookup m = none := by
  unfold nf
  rw [lookup_putF, if_neg h4, lookup_putF, if_neg h3, lookup_putF, if_neg h1, lookup_putF, if_neg h2]; rfl
/-- a dict from each pond to a list of pairs -/
def SideAt (H : Hp) (d : Addr) (g : Str → List (Str × Int)) (l : List Str) : Prop := ∃ ls : List (Str × Addr), H d = some (.dK (ls.map fun p => ((Sum.inr p.1 : Key), V.ref p.2))) ∧ ls.map Prod.fst = l ∧ ∀ p ∈ ls, ∃ as od, H p.2 = some (.frz od (.lst (as.map V.ref))) ∧ PairsAt H as (g p.1)
theorem SideAt.keep {H H' : Hp} {d : Addr} {g : Str → List (Str × Int)} {l : List Str} (h : SideAt H d g l) (kd : ∀ x, H d = some x → H' d = some x) (kl : ∀ b od xs, H b = some (.frz od (.lst xs)) → H' b = some (.frz od (.lst xs))) (kt : ∀ b xs, H b = some (.tup xs) → H' b = some (.tup xs)) : SideAt H' d g l := by
  obtain ⟨ls, a, b, c⟩ := h
  refine ⟨ls, kd _ a, b, fun p hp => ?_⟩
  obtain ⟨as, od, e1, e2⟩ := c p hp
  exact ⟨as, od, kl _ _ _ e1, e2.keep kt⟩
theorem SideAt.same {H H' : Hp} {d : Addr} {g : Str → List (Str × Int)} {l : List Str} (h : SideAt H d g l) (s : Same H H') : SideAt H' d g l := h.keep (fun _ e => s _ _ e) (fun _ _ _ e => s _ _ e) (fun _ _ e => s _ _ e)
structure NetAt (C : Addr) (H : Hp) (n : Addr) (B : Br) (Pp : Pi) : Prop where
  at_ : ∃ dx d1 d2, H n = some (.ins C dx (nf d1 d2)) ∧ H d1 = some (.dK (bk B)) ∧ H d2.w = some (.dT (pt Pp)) ∧ SideAt H d2.o (outsOf Pp) (nms B) ∧ SideAt H d2.i (insOf Pp) (nms B)
theorem NetAt.same {C : Addr} {H H' : Hp} {n : Addr} {B : Br} {Pp : Pi} (h : NetAt C H n B Pp) (s : Same H H') : NetAt C H' n B Pp := by
  obtain ⟨dx, d1, d2, a, b, c, e, f⟩ := h
  exact ⟨dx, d1, d2, s _ _ a, s _ _ b, s _ _ c, e.same s, f.same s⟩
/-- a net that is let -/
structure Good (B : Br) (Pp : Pi) : Prop where
  wf : Wf Nm B Pp
  fit : Fit B Pp
  op : ∀ x ∈ nms B, Opn B Pp x
theorem Good.perm {B B' : Br} {P P' : Pi} (h : Good B P) (hB : B.Perm B') (hP : P.Perm P') : Good B' P' where
  wf := h.wf.perm hB hP
  fit := fun p hp => by
    have := h.fit p (hB.mem_iff.mpr hp)
    rw [outW_perm hP, inW_perm hP] at this
    exact this
  op := fun x hx => (h.op x ((hB.map Prod.fst).mem_iff.mpr hx)).perm hB hP
structure TxN (K : PySem.W.Frag) (mg : Str → Option Value) (C : Addr) : Prop where
  cl : Cls K C
  nB : NoAttr K C "brim_by_pond"
  nW : NoAttr K C "width_by_pair"
  nO : NoAttr K C "outs_by_pond"
  nI : NoAttr K C "ins_by_pond"
  mgC : mg "Net" = some (.ref C)
theorem nms_len' (B : Br) : (nms B).length = B.length := List.length_map _
def reB (B : Br) (ys : List Str) : Br := ys.map fun x => (x, (getB B x).getD 0)
theorem reB_perm {B : Br} (nd : (nms B).Nodup) {ys : List Str} (pm : ys.Perm (nms B)) : (reB B ys).Perm B := by
  have h1 : (reB B ys).Perm (reB B (nms B)) := pm.map _
  have h2 : reB B (nms B) = B := by
    unfold reB nms
    rw [List.map_map]
    conv => rhs; rw [← List.map_id B]
    refine List.map_congr_left fun p hp => ?_
    show (p.1, (getB B p.1).getD 0) = p
    rw [getB_of_mem nd (show (p.1, p.2) ∈ B from hp)]; rfl
  rw [h2] at h1
  exact h1
def reP (Pp : Pi) (qs : List (Str × Str)) : Pi := qs.map fun q => (q, (getP Pp q).getD 0)
theorem reP_perm {Pp : Pi} (nd : (Pp.map Prod.fst).Nodup) {qs : List (Str × Str)} (pm : qs.Perm (Pp.map Prod.fst)) : (reP Pp qs).Perm Pp := by
  have h1 : (reP Pp qs).Perm (reP Pp (Pp.map Prod.fst)) := pm.map _
  have h2 : reP Pp (Pp.map Prod.fst) = Pp := by
    unfold reP
    rw [List.map_map]
    conv => rhs; rw [← List.map_id Pp]
    refine List.map_congr_left fun p hp => ?_
    show (p.1, (getP Pp p.1).getD 0) = p
    rw [getP_of_mem nd (show (p.1, p.2) ∈ Pp from hp)]; rfl
  rw [h2] at h1
  exact h1
theorem pt_append (S T : Pi) : pt (S ++ T) = pt S ++ pt T := List.map_append
theorem pt_len (S : Pi) : (pt S).length = S.length := List.length_map _
theorem getP_none {Pp : Pi} {q : Str × Str} (h : q ∉ Pp.map Prod.fst) : getP Pp q = none := by
  unfold getP
  rw [List.find?_eq_none.mpr (fun p hp => by
    have : p.1 ≠ q := fun e => h (List.mem_map.mpr ⟨p, hp, e⟩)
    simpa using this)]
  rfl
theorem putK_pt {S : Pi} {q : Str × Str} {n : Int} (h : q ∉ S.map Prod.fst) : putK (pt S) (Rl.pk q) (.int n) = pt (S ++ [(q, n)]) := by
  rw [putK_new _ (by rw [valV_pt, getP_none h]; rfl), pt_append]; rfl
theorem take_nd {α : Type} {l : List α} (nd : l.Nodup) {i : Nat} {x : α} (h : l[i]? = some x) : x ∉ l.take i := by
  intro m
  have h2 : (l.take (i + 1)).Nodup := List.Nodup.sublist (List.take_sublist _ _) nd
  rw [List.take_add_one, h, List.nodup_append] at h2
  exact h2.2.2 x m x (List.mem_singleton.mpr rfl) rfl
section
variable {P : Program} {w : World} {K : PySem.W.Frag} {mg : Str → Option Value} {base : Heap}
theorem scNInit : FnScope ["self", "brims", "pipes", "laid", "name", "one", "other"] ["self", "brims", "pipes"] (defScope mNet_init) := ⟨rfl, rfl, rfl, by decide +kernel, rfl, by decide +kernel, by decide +kernel⟩
def spNInit (C : Addr) : Sp := fun vs H Q _ => ∃ (n dx a b : Addr) (B : Br) (Pp : Pi), vs = [.ref n, .ref a, .ref b] ∧ H n = some (.ins C dx []) ∧ H a = some (.dK (bk B)) ∧ H b = some (.dT (pt Pp)) ∧ Good B Pp ∧
  ∀ (H' : Hp) (B' : Br) (P' : Pi), NetAt C H' n B' P' → B'.Perm B → P'.Perm Pp → sortedS (nms B') = true → (P'.map Prod.fst).Pairwise (fun x y => Rl.ltP y x = false) → (∃ dx' d1 d2, H' n = some (.ins C dx' (nf d1 d2)) ∧ H d1 = none ∧ H d2.o = none ∧ H d2.i = none ∧ H d2.w = none) → (∀ b o, H b = some o → b ≠ n → H' b = some o) → Q .non H'
/-- the net's fields behind each of the four stores -/
theorem f2_b (d1 d2 : Addr) : (putF "width_by_pair" (.ref d2) (putF "brim_by_pond" (.ref d1) [])).lookup ("brim_by_pond" : Str) = some (V.ref d1) := by
  rw [lookup_putF, if_neg bw, lookup_putF, if_pos rfl]
theorem f2_w (d1 d2 : Addr) : (putF "width_by_pair" (.ref d2) (putF "brim_by_pond" (.ref d1) [])).lookup ("width_by_pair" : Str) = some (V.ref d2) := by
  rw [lookup_putF, if_pos rfl]
theorem f3_b (d1 d2 d3 : Addr) : (putF "outs_by_pond" (.ref d3) (putF "width_by_pair" (.ref d2) (putF "brim_by_pond" (.ref d1) []))).lookup ("brim_by_pond" : Str) = some (V.ref d1) := by
  rw [lookup_putF, if_neg bo, f2_b]
theorem f3_w (d1 d2 d3 : Addr) : (putF "outs_by_pond" (.ref d3) (putF "width_by_pair" (.ref d2) (putF "brim_by_pond" (.ref d1) []))).lookup ("width_by_pair" : Str) = some (V.ref d2) := by
  rw [lookup_putF, if_neg wo, f2_w]
theorem rk_val {ls : List (Str × Addr)} {z : Str} (h : z ∉ ls.map Prod.fst) : valV (ls.map fun p => ((Sum.inr p.1 : Key), V.ref p.2)) (Sum.inr z) = none := by
  unfold valV
  rw [List.find?_eq_none.mpr (fun p hp => by
    obtain ⟨q, hq, rfl⟩ := List.mem_map.mp hp
    have : q.1 ≠ z := fun e => h (List.mem_map.mpr ⟨q, hq, e⟩)
    simpa using this)]
  rfl
/-- {name: f(..) for name in d}, where each value is a new list of pairs -/
theorem side_dc {B : Br} {g : Str → List (Str × Int)} {d D : Addr} {od : Obj} {H1 : Hp} {σ : L2.St} {tv : TE} {j : Nat} {Qd : Hp → Prop} (nd : (nms B).Nodup) (ln : B.length ≤ 12) (he : H1 d = some (.frz od (.dK (bk B)))) (nD : H1 D = none)
    (hj : ∀ z : Str, ((wipe σ [j]).set j (some (.str z)))[j]? = some (some (V.str z))) (hw : ∀ z : Str, wipe ((wipe σ [j]).set j (some (.str z))) [j] = wipe σ [j])
    (ht : ∀ (z : Str) (H2 : Hp) (R : V → Hp → Prop), z ∈ nms B → Same H1 H2 → (∀ H3 p as od, Same H2 H3 → H2 p = none → H3 p = some (.frz od (.lst (as.map V.ref))) → PairsAt H3 as (g z) → R (.ref p) H3) → tv ((wipe σ [j]).set j (some (.str z))) H2 R)
    (hd : ∀ H2, SideAt H2 D g (nms B) → Same H1 H2 → Qd H2) :
    ∃ W : Nat → Nat → Hp → Prop, (∃ m, W 0 m (upd H1 D (.dK []))) ∧ ∀ i m H, W i m H →
      ((Itk d od (bk B)).stop i H ∧ Qd H) ∨ ((Itk d od (bk B)).go i H ∧ ∃ Nx : Hp → Prop, (∀ H', Nx H' → ∃ m', m' < m ∧ W (i + 1) m' H') ∧
        ∀ x H', (Itk d od (bk B)).yld i H x H' → gName j x (wipe σ [j]) H' fun σ2 H2 => wipe σ2 [j] = wipe σ [j] ∧ tYes σ2 H2 fun b H3 => if b = true then Rl.tbD (tVar j) tv D σ2 H3 Nx else Nx H3) := by
  refine Rl.gc_it (n := (bk B).length) (b0 := fun _ => .dK []) walk_keys (fun i H2 => SideAt H2 D g ((nms B).take i) ∧ Same H1 H2) ⟨⟨[], upd_same, rfl, fun p hp => (List.not_mem_nil hp).elim⟩, same_new nD⟩ (fun i H2 _ h => h.2 d _ he) ?_ ?_
  · rintro i x H2 H2' hi ⟨⟨ls, hD, hk, hl⟩, sm⟩ ⟨rfl, kk, v, hkv, rfl⟩
    obtain ⟨p, hp, rfl, rfl⟩ := bk_at hkv
    have hn : (nms B)[i]? = some p.1 := by unfold nms; rw [List.getElem?_map, hp]; rfl
    refine ⟨hw p.1, ?_⟩
    show Rl.tbD (tVar j) tv D (List.set (wipe σ [j]) j (some (V.str p.1))) H2' fun H2 => SideAt H2 D g ((nms B).take (i + 1)) ∧ Same H1 H2
    refine ⟨.str p.1, hj p.1, ht p.1 H2' _ (List.mem_of_getElem? hn) sm fun H3 q as oq s3 nq hq hP => ⟨_, DPut.k (k := Sum.inr p.1) (s3 D _ hD) ?_, ?_, ?_⟩⟩
    · rw [List.length_map]
      have e1 := congrArg List.length hk
      rw [List.length_map, List.length_take] at e1
      exact small1000 (by have : (nms B).length = B.length := List.length_map _; omega)
    · have fr : p.1 ∉ ls.map Prod.fst := by rw [hk]; exact take_nd nd hn
      have hD3 := s3 D _ hD
      have kl : ∀ b od xs, H3 b = some (.frz od (.lst xs)) → (upd H3 D (.dK (putK (ls.map fun p => ((Sum.inr p.1 : Key), V.ref p.2)) (Sum.inr p.1) (.ref q)))) b = some (.frz od (.lst xs)) := fun b od xs e => by
        rw [upd_ne (fun z => by subst z; rw [hD3] at e; cases e)]; exact e
      have kt : ∀ b xs, H3 b = some (.tup xs) → (upd H3 D (.dK (putK (ls.map fun p => ((Sum.inr p.1 : Key), V.ref p.2)) (Sum.inr p.1) (.ref q)))) b = some (.tup xs) := fun b xs e => by
        rw [upd_ne (fun z => by subst z; rw [hD3] at e; cases e)]; exact e
      refine ⟨ls ++ [(p.1, q)], ?_, ?_, fun r hr => ?_⟩
      · rw [upd_same, putK_new _ (rk_val fr), List.map_append]; rfl
      · rw [List.map_append, hk, List.take_add_one, hn]; rfl
      · rcases List.mem_append.mp hr with hr | hr
        · obtain ⟨as', od', e1, e2⟩ := hl r hr
          exact ⟨as', od', kl _ _ _ (s3 _ _ e1), (e2.same s3).keep kt⟩
        · have er : r = (p.1, q) := by simpa using hr
          subst er
          exact ⟨as, oq, kl _ _ _ hq, hP.keep kt⟩
    · exact fun c o ec => by
        have nb : c ≠ D := ne_of_none ec nD
        rw [upd_ne nb]; exact s3 c o (sm c o ec)
  · rintro H2 ⟨S, sm⟩
    rw [bk_len, ← nms_len', List.take_length] at S
    exact hd H2 S sm
/-- and the dict that was walked is itself again -/
theorem SideAt.unlock {H1 : Hp} {d D : Addr} {od : Obj} {u : List (Key × V)} {g : Str → List (Str × Int)} {l : List Str} (S : SideAt H1 D g l) (l1 : H1 d = some (.frz od (.dK u))) : SideAt (upd H1 d (.dK u)) D g l := by
  have k : ∀ {b : Addr} {o : HO}, H1 b = some o → (∀ od v, o ≠ .frz od (.dK v)) → (upd H1 d (.dK u)) b = some o := fun {b o} e no => by
    rw [upd_ne (fun z => by subst z; rw [l1] at e; exact no _ _ (Option.some.inj e).symm)]; exact e
  obtain ⟨ls, a, b, c⟩ := S
  refine ⟨ls, k a (fun _ v e => by cases e), b, fun p hp => ?_⟩
  obtain ⟨as, oq, e1, e2⟩ := c p hp
  exact ⟨as, oq, k e1 (fun _ v e => by cases e), e2.keep fun b xs e => k e (fun _ v e => by cases e)⟩
theorem ok_nInit {f C f1 f2 f3 f4 f5 f6 : Addr} {fd fd1 fd2 fd3 fd4 fd5 fd6 : FuncData} (F : FunD K "__init__" "Net.__init__" (defArgs mNet_init) (defBody mNet_init) (defScope mNet_init) [.non] [] f fd) (T : TxN K mg C)
    (F1 : Fun K "check_ponds" "check_ponds" sCkPonds f1 fd1) (G1 : FnOk P w K mg base CX0 3 f1 fd1 ["brims"] spCkPonds) (b1 : Binds K fd1 ["brims"] []) (g1 : mg "check_ponds" = some (.ref f1))
    (F2 : Fun K "check_pipes" "check_pipes" sCkPipes f2 fd2) (G2 : FnOk P w K mg base CX0 4 f2 fd2 ["brims", "pipes"] (spCk2 fun _ _ => True)) (b2 : Binds K fd2 ["brims", "pipes"] []) (g2 : mg "check_pipes" = some (.ref f2))
    (F3 : Fun K "check_sides" "check_sides" sCkSides f3 fd3) (G3 : FnOk P w K mg base CX0 2 f3 fd3 ["brims", "pipes"] (spCk2 Fit)) (b3 : Binds K fd3 ["brims", "pipes"] []) (g3 : mg "check_sides" = some (.ref f3))
    (F4 : Fun K "check_ways" "check_ways" sCkWays f4 fd4) (G4 : FnOk P w K mg base CX0 3 f4 fd4 ["brims", "pipes"] (spCk2 fun B Pp => ∀ x ∈ nms B, Opn B Pp x)) (b4 : Binds K fd4 ["brims", "pipes"] []) (g4 : mg "check_ways" = some (.ref f4))
    (F5 : Fun K "pipes_out" "pipes_out" sPipesOut f5 fd5) (G5 : FnOk P w K mg base CX0 1 f5 fd5 ["pipes", "name"] (spSide outsOf)) (b5 : Binds K fd5 ["pipes", "name"] []) (g5 : mg "pipes_out" = some (.ref f5))
    (F6 : Fun K "pipes_in" "pipes_in" sPipesIn f6 fd6) (G6 : FnOk P w K mg base CX0 1 f6 fd6 ["pipes", "name"] (spSide insOf)) (b6 : Binds K fd6 ["pipes", "name"] []) (g6 : mg "pipes_in" = some (.ref f6))
    (mi : mg "isinstance" = none) (md : mg "dict" = none) (ms : mg "sorted" = none) : FnOk P w K mg base CX0 5 f fd ["self", "brims", "pipes"] (spNInit C) := by
  refine F.ok scNInit (fun vs H Q E h => ?_) (fun cdv A outer s H vs Q E hr h => ?_)
  · obtain ⟨n, dx, a, b, B, Pp, rfl, _⟩ := h
    rfl
  · obtain ⟨n, dx, a, b, B, Pp, rfl, hn, hA, hB, good, q⟩ := h
    have hu := hu_of hr
    have wf := good.wf
    refine ⟨_, PSs.nox (pss_cons (ps_set (i := 3) scNInit.nd rfl (.inr rfl) (pe_ifExp (pt_cmp (pc_isN (pv 2))) pe_dnewT (pv 2)))
      (pss_cons (ps_if (PW.pt (pw_or (pt_not (pt_val (pe_callB call_isi (by rfl) mi (by decide +kernel) (pa_cons (pv 1) (pa_cons (pe_bltn (v := .ty "dict") (by rfl) md (by decide +kernel) rfl) pa_nil)))))
        (pw_or1 (pt_not (pt_val (pe_callB call_isi (by rfl) mi (by decide +kernel) (pa_cons (pv 3) (pa_cons (pe_bltn (v := .ty "dict") (by rfl) md (by decide +kernel) rfl) pa_nil)))))))) (pss_one ps_never) pss_nil)
      (pss_cons (ps_expr (pe_call G1 (hr.mono (by decide)) (by rfl) g1 F1.kp b1 .nil pass0 (pa_cons (pv 1) pa_nil)))
      (pss_cons (ps_expr (pe_call G2 hr (by rfl) g2 F2.kp b2 .nil pass0 (pa_cons (pv 1) (pa_cons (pv 3) pa_nil))))
      (pss_cons (ps_expr (pe_call G3 (hr.mono (by decide)) (by rfl) g3 F3.kp b3 .nil pass0 (pa_cons (pv 1) (pa_cons (pv 3) pa_nil))))
      (pss_cons (ps_expr (pe_call G4 (hr.mono (by decide)) (by rfl) g4 F4.kp b4 .nil pass0 (pa_cons (pv 1) (pa_cons (pv 3) pa_nil))))
      (pss_cons (ps_fld (pv 0) (Rl.pe_dcP (T := .dK []) (own := [("name", 4)]) (g := gName 4) (tt := tYes) (.inr rfl) hr rfl scNInit.nd (pi_list (pe_callB (call_sortedD rfl) (by rfl) ms (by decide +kernel) (pa_cons (pv 1) pa_nil)))
        (blkOk_by (N := ["self", "brims", "pipes", "laid", "name", "one", "other"]) (sc := defScope mNet_init) (by decide +kernel)) (fun _ _ _ _ _ => pg_name (i := 4) scNInit.nd rfl (Or.inl rfl)) (fun _ _ _ _ _ => pts_nil)
        (fun _ _ _ _ _ => pv 4) (fun _ _ _ _ _ => pe_dget hu (pv 1) (pv 4) (fun _ _ => rfl))) rfl)
      (pss_cons (ps_fld (pv 0) (Rl.pe_dcP (T := .dT []) (own := [("one", 5), ("other", 6)]) (g := gTup K 2 (gCons (gName 5) (gCons (gName 6) gNil))) (tt := tYes) (.inl rfl) hr rfl scNInit.nd (pi_list (pe_callB (Rl.call_sortD rfl) (by rfl) ms (by decide +kernel) (pa_cons (pv 3) pa_nil)))
        (blkOk_by (N := ["self", "brims", "pipes", "laid", "name", "one", "other"]) (sc := defScope mNet_init) (by decide +kernel)) (fun _ _ _ _ _ => pg_tup rfl (pgs_cons (pg_name (i := 5) scNInit.nd rfl (Or.inl rfl)) (pgs_cons (pg_name (i := 6) scNInit.nd rfl (Or.inl rfl)) pgs_nil))) (fun _ _ _ _ _ => pts_nil)
        (fun _ _ _ _ _ => pe_tup (pa_cons (pv 5) (pa_cons (pv 6) pa_nil))) (fun _ _ _ _ _ => pe_dget hu (pv 3) (pe_tup (pa_cons (pv 5) (pa_cons (pv 6) pa_nil))) (fun _ _ => rfl))) rfl)
      (pss_cons (ps_fld (pv 0) (pe_lock (Rl.pe_dcP (T := .dK []) (own := [("name", 4)]) (g := gName 4) (tt := tYes) (tk := tVar 4) (tv := tCall (spSide outsOf) [] (fun _ _ _ => False) (tCons (tFld K (tVar 0) "width_by_pair") (tCons (tVar 4) tNil))) (.inr rfl) hr rfl scNInit.nd (pi_keys (pe_fld (pv 0) rfl))
        (blkOk_by (N := ["self", "brims", "pipes", "laid", "name", "one", "other"]) (sc := defScope mNet_init) (by decide +kernel)) (fun _ _ _ _ _ => pg_name (i := 4) scNInit.nd rfl (Or.inl rfl)) (fun _ _ _ _ _ => pts_nil)
        (fun _ _ _ _ _ => pv 4) (fun _ _ _ _ _ => pe_call G5 (hr.mono (by decide)) (by rfl) g5 F5.kp b5 .nil pass0 (pa_cons (pe_fld (pv 0) rfl) (pa_cons (pv 4) pa_nil))))) rfl)
      (pss_one (ps_fld (pv 0) (pe_lock (Rl.pe_dcP (T := .dK []) (own := [("name", 4)]) (g := gName 4) (tt := tYes) (tk := tVar 4) (tv := tCall (spSide insOf) [] (fun _ _ _ => False) (tCons (tFld K (tVar 0) "width_by_pair") (tCons (tVar 4) tNil))) (.inr rfl) hr rfl scNInit.nd (pi_keys (pe_fld (pv 0) rfl))
        (blkOk_by (N := ["self", "brims", "pipes", "laid", "name", "one", "other"]) (sc := defScope mNet_init) (by decide +kernel)) (fun _ _ _ _ _ => pg_name (i := 4) scNInit.nd rfl (Or.inl rfl)) (fun _ _ _ _ _ => pts_nil)
        (fun _ _ _ _ _ => pv 4) (fun _ _ _ _ _ => pe_call G6 (hr.mono (by decide)) (by rfl) g6 F6.kp b6 .nil pass0 (pa_cons (pe_fld (pv 0) rfl) (pa_cons (pv 4) pa_nil))))) rfl))))))))))), ?_⟩
    -- laid
    refine ⟨.ref b, rfl, false, rfl, iteF ⟨.ref b, rfl, ?_⟩⟩
    refine ⟨.ref a, rfl, .ref a, .ty "dict", .type "dict", .type "dict", true, rfl, .ty _, .base (.dK hA), kit_ty (by decide +kernel), true, rfl, iteF ?_⟩
    refine ⟨.ref b, rfl, .ref b, .ty "dict", .type "dict", .type "dict", true, rfl, .ty _, .base (.dT hB), kit_ty (by decide +kernel), true, rfl, iteF ?_⟩
    refine ⟨.ref a, rfl, a, B, Pp, rfl, hA, wf, fun H1 s1 => ?_⟩
    refine ⟨.ref a, rfl, .ref b, rfl, a, b, B, Pp, rfl, s1 a _ hA, s1 b _ hB, wf, trivial, fun H2 s2 => ?_⟩
    have s12 := s1.trans s2
    refine ⟨.ref a, rfl, .ref b, rfl, a, b, B, Pp, rfl, s12 a _ hA, s12 b _ hB, wf, good.fit, fun H3 s3 => ?_⟩
    have s13 := s12.trans s3
    refine ⟨.ref a, rfl, .ref b, rfl, a, b, B, Pp, rfl, s13 a _ hA, s13 b _ hB, wf, good.op, fun H4 s4 => ?_⟩
    have s14 := s13.trans s4
    -- self.brim_by_pond
    refine ⟨.ref a, rfl, a, _, nms B, rfl, .inl (s14 a _ hA), ?_, ?_, fun ys e pm srt ne => ?_⟩
    · unfold bk nms
      rw [List.map_map, List.map_map]; rfl
    · show (B.map _).length < 64
      rw [List.length_map]; have := wf.lb; omega
    have ndy : ys.Nodup := pm.nodup_iff.mpr wf.nb
    have sE := same_new (o := .lst (ys.map V.str)) ne
    refine ⟨e, rfl, ⟨_, SqL.of upd_same⟩, fun D nD => ?_⟩
    refine Rl.gc_it (b0 := fun _ => .dK []) (walk_list (K := K) (a := e) (xs := ys.map V.str)) (fun i H5 => H5 D = some (.dK (bk (reB B (ys.take i)))) ∧ Same (upd H4 e (.lst (ys.map V.str))) H5) ⟨upd_same, same_new nD⟩ (fun i H5 _ h => SqL.of (h.2 e _ upd_same)) ?_ ?_
    · rintro i x H5 H5' hi ⟨hD, sm⟩ ⟨rfl, hx⟩
      rw [List.getElem?_map] at hx
      cases hy : ys[i]? with
      | none => rw [hy] at hx; cases hx
      | some z =>
        rw [hy] at hx
        have hx' : V.str z = x := Option.some.inj hx
        subst hx'
        obtain ⟨c, hc⟩ := getB_some (pm.mem_iff.mp (List.mem_of_getElem? hy))
        refine ⟨rfl, .str z, rfl, .ref a, rfl, .str z, rfl, a, .int c, rfl, .inl ⟨_, Sum.inr z, .inl (sm a _ (sE a _ (s14 a _ hA))), rfl, by rw [valV_bk, hc]; rfl⟩, _, DPut.k (k := Sum.inr z) hD ?_, ?_, ?_⟩
        · rw [bk_len]
          unfold reB
          rw [List.length_map, List.length_take]
          have := pm.length_eq
          have h2 : (nms B).length = B.length := List.length_map _
          have := wf.lb
          exact small1000 (by omega)
        · have fr : z ∉ nms (reB B (ys.take i)) := by
            unfold nms reB
            rw [List.map_map]
            intro m
            obtain ⟨u, hu', eu⟩ := List.mem_map.mp m
            exact take_nd ndy hy (by rw [← (show u = z from eu)]; exact hu')
          rw [upd_same, putK_bk fr, List.take_add_one, hy]
          unfold reB
          rw [List.map_append]
          show _ = some (HO.dK (bk (_ ++ [(z, (getB B z).getD 0)])))
          rw [hc]; rfl
        · exact fun c' o ec => by
            have nb : c' ≠ D := ne_of_none ec nD
            rw [upd_ne nb]; exact sm c' o ec
    · rintro H5 ⟨hD, sm⟩
      rw [List.length_map, List.take_length] at hD
      have s15 : Same H H5 := s14.trans (sE.trans sm)
      have nDn : n ≠ D := ne_of_none (sE n _ (s14 n _ hn)) nD
      refine ⟨.ref n, rfl, n, C, dx, [], rfl, s15 n _ hn, T.cl, T.nB, by decide, ?_⟩
      have hnb : n ≠ b := fun z => by subst z; rw [hn] at hB; cases hB
      have hna : n ≠ a := fun z => by subst z; rw [hn] at hA; cases hA
      have hB6 : (upd H5 n (.ins C dx (putF "brim_by_pond" (.ref D) []))) b = some (.dT (pt Pp)) := by rw [upd_ne (Ne.symm hnb)]; exact s15 b _ hB
      have hn6 : (upd H5 n (.ins C dx (putF "brim_by_pond" (.ref D) []))) n = some (.ins C dx (putF "brim_by_pond" (.ref D) [])) := upd_same
      have hD6 : (upd H5 n (.ins C dx (putF "brim_by_pond" (.ref D) []))) D = some (.dK (bk (reB B ys))) := by rw [upd_ne (Ne.symm nDn)]; exact hD
      have k6 : ∀ c o, H c = some o → c ≠ n → (upd H5 n (.ins C dx (putF "brim_by_pond" (.ref D) []))) c = some o := fun c o ec nc => by rw [upd_ne nc]; exact s15 c o ec
      obtain ⟨H6, hH6⟩ : ∃ H6, H6 = upd H5 n (.ins C dx (putF "brim_by_pond" (.ref D) [])) := ⟨_, rfl⟩
      rw [← hH6] at hB6 hn6 hD6 k6
      rw [← hH6]
      -- self.width_by_pair
      refine ⟨.ref b, rfl, b, _, Pp.map Prod.fst, rfl, .inl hB6, ?_, ?_, fun qs e2 pm2 srt2 hqs ne2 => ?_⟩
      · unfold pt
        rw [List.map_map, List.map_map]; rfl
      · rw [List.length_map]; have := wf.lp; omega
      have ndq : (qs.map (·.2)).Nodup := pm2.nodup_iff.mpr wf.np
      have ql : qs.length = Pp.length := by
        have := pm2.length_eq
        simpa using this
      have sF := same_new (o := .lst (qs.map fun q => V.ref q.1)) ne2
      refine ⟨e2, rfl, ⟨_, SqL.of upd_same⟩, fun D2 nD2 => ?_⟩
      refine Rl.gc_it (b0 := fun _ => .dT []) (walk_list (K := K) (a := e2) (xs := qs.map fun q => V.ref q.1)) (fun i H7 => H7 D2 = some (.dT (pt (reP Pp ((qs.map (·.2)).take i)))) ∧ Same (upd H6 e2 (.lst (qs.map fun q => V.ref q.1))) H7) ⟨upd_same, same_new nD2⟩ (fun i H7 _ h => SqL.of (h.2 e2 _ upd_same)) ?_ ?_
      · rintro i x H7 H7' hi ⟨hD2, sm2⟩ ⟨rfl, hx⟩
        rw [List.getElem?_map] at hx
        cases hy : qs[i]? with
        | none => rw [hy] at hx; cases hx
        | some z =>
          rw [hy] at hx
          have hx' : V.ref z.1 = x := Option.some.inj hx
          subst hx'
          have hzt := sm2 z.1 _ (sF z.1 _ (hqs z (List.mem_of_getElem? hy)))
          have hy2 : (qs.map (·.2))[i]? = some z.2 := by rw [List.getElem?_map, hy]; rfl
          obtain ⟨p, hp, ez⟩ := List.mem_map.mp (pm2.mem_iff.mp (List.mem_of_getElem? hy2))
          have gz : getP Pp z.2 = some p.2 := getP_of_mem wf.np (by rw [← (show p.1 = z.2 from ez)]; exact hp)
          refine ⟨z.1, [.str z.2.1, .str z.2.2], rfl, SqT.of hzt, rfl, .str z.2.1, [.str z.2.2], rfl, .str z.2.2, [], rfl, rfl, rfl, ?_⟩
          refine ⟨.str z.2.1, rfl, .str z.2.2, rfl, (by show 2 ≤ sizeLine; decide), fun t1 nt1 => ?_⟩
          have n1D : t1 ≠ D2 := Ne.symm (ne_of_none hD2 nt1)
          refine ⟨.ref b, rfl, .str z.2.1, rfl, .str z.2.2, rfl, (by show 2 ≤ sizeLine; decide), fun t2 nt2 => ?_⟩
          have n2D : t2 ≠ D2 := Ne.symm (ne_of_none (show (upd H7' t1 (.tup [.str z.2.1, .str z.2.2])) D2 = _ by rw [upd_ne (Ne.symm n1D)]; exact hD2) nt2)
          have n12 : t1 ≠ t2 := ne_of_none (o := .tup [.str z.2.1, .str z.2.2]) upd_same nt2
          have sT := (same_new (o := .tup [.str z.2.1, .str z.2.2]) nt1).trans (same_new (o := .tup [.str z.2.1, .str z.2.2]) nt2)
          refine ⟨b, .int p.2, rfl, .inr ⟨_, Rl.pk z.2, t2, .inl (sT b _ (sm2 b _ (sF b _ hB6))), rfl, upd_same, by rw [valV_pt, gz]; rfl⟩, _, DPut.t (k := Rl.pk z.2) (sT D2 _ hD2) (by rw [upd_ne n12, upd_same]; rfl) ?_, ?_, ?_⟩
          · rw [pt_len]
            unfold reP
            rw [List.length_map, List.length_take, List.length_map]
            have := wf.lp
            exact small1000 (by omega)
          · have fr : z.2 ∉ (reP Pp ((qs.map (·.2)).take i)).map Prod.fst := by
              unfold reP
              rw [List.map_map]
              intro m
              obtain ⟨u, hu', eu⟩ := List.mem_map.mp m
              exact take_nd ndq hy2 (by rw [← (show u = z.2 from eu)]; exact hu')
            rw [upd_same, putK_pt fr, List.take_add_one, hy2]
            unfold reP
            rw [List.map_append]
            show _ = some (HO.dT (pt (_ ++ [(z.2, (getP Pp z.2).getD 0)])))
            rw [gz]; rfl
          · exact fun c' o ec => by
              have nb : c' ≠ D2 := ne_of_none ec nD2
              rw [upd_ne nb]; exact sT c' o (sm2 c' o ec)
      · rintro H7 ⟨hD2, sm2⟩
        rw [List.length_map, show qs.length = (qs.map (·.2)).length from (List.length_map _).symm, List.take_length] at hD2
        have s67 : Same H6 H7 := sF.trans sm2
        have nD2n : n ≠ D2 := ne_of_none (sF n _ hn6) nD2
        have hnD' : n ≠ D := nDn
        refine ⟨.ref n, rfl, n, C, dx, _, rfl, s67 n _ hn6, T.cl, T.nW, (by show 1 < 1000; decide), ?_⟩
        have eP : (reP Pp (qs.map (·.2))).map Prod.fst = qs.map (·.2) := by
          unfold reP
          rw [List.map_map]
          exact List.map_id' _
        have eB : nms (reB B ys) = ys := by
          unfold nms reB
          rw [List.map_map]
          exact List.map_id' _
        have s17 : ∀ c o, H c = some o → c ≠ n → H7 c = some o := fun c o ec nc => s67 c o (k6 c o ec nc)
        have gd2 : Good (reB B ys) (reP Pp (qs.map (·.2))) := good.perm (reB_perm wf.nb pm).symm (reP_perm wf.np pm2).symm
        have wf2 := gd2.wf
        -- what stands behind the second store
        obtain ⟨H8, hH8⟩ : ∃ H8, H8 = upd H7 n (.ins C dx (putF "width_by_pair" (.ref D2) (putF "brim_by_pond" (.ref D) []))) := ⟨_, rfl⟩
        have hn8 : H8 n = some (.ins C dx (putF "width_by_pair" (.ref D2) (putF "brim_by_pond" (.ref D) []))) := by rw [hH8, upd_same]
        have hD8 : H8 D = some (.dK (bk (reB B ys))) := by rw [hH8, upd_ne (Ne.symm nDn)]; exact s67 D _ hD6
        have hW8 : H8 D2 = some (.dT (pt (reP Pp (qs.map (·.2))))) := by rw [hH8, upd_ne (Ne.symm nD2n)]; exact hD2
        have k8 : ∀ c o, H c = some o → c ≠ n → H8 c = some o := fun c o ec nc => by rw [hH8, upd_ne nc]; exact s17 c o ec nc
        rw [← hH8]
        -- self.outs_by_pond
        refine ⟨D, _, hD8, trivial, fun od => ?_⟩
        have nDn8 : n ≠ D := nDn
        have hn9 : (upd H8 D (.frz od (.dK (bk (reB B ys))))) n = some (.ins C dx (putF "width_by_pair" (.ref D2) (putF "brim_by_pond" (.ref D) []))) := by rw [upd_ne nDn8]; exact hn8
        have nDW : D2 ≠ D := fun z => by subst z; rw [hD8] at hW8; cases hW8
        have hW9 : (upd H8 D (.frz od (.dK (bk (reB B ys))))) D2 = some (.dT (pt (reP Pp (qs.map (·.2))))) := by rw [upd_ne nDW]; exact hW8
        refine ⟨.ref n, rfl, n, C, dx, _, _, rfl, hn9, T.cl, T.nB, f2_b D D2, D, od, rfl, .inl ⟨_, upd_same, fun D3 nD3 => ?_⟩⟩
        have d3D : D3 ≠ D := fun e => by subst e; rw [upd_same] at nD3; cases nD3
        have nD38 : H8 D3 = none := by rw [upd_ne d3D] at nD3; exact nD3
        refine side_dc (g := outsOf (reP Pp (qs.map (·.2)))) wf2.nb wf2.lb upd_same nD3 (fun z => rfl) (fun z => rfl) (fun z Ha R mz sa h => ?_) (fun Ha Sa sa => ?_)
        · exact ⟨.ref n, rfl, n, C, dx, _, _, rfl, sa n _ hn9, T.cl, T.nW, f2_w D D2, .str z, rfl, D2, _, z, rfl, sa D2 _ hW9, wf2.np, wf2.lp, h⟩
        obtain ⟨l1, sb⟩ := same_lock hD8 sa
        refine ⟨l1, ?_⟩
        have Sb := Sa.unlock l1
        obtain ⟨Hb, hHb⟩ : ∃ Hb, Hb = upd Ha D (.dK (bk (reB B ys))) := ⟨_, rfl⟩
        rw [← hHb] at sb Sb
        rw [← hHb]
        refine ⟨.ref n, rfl, n, C, dx, _, rfl, sb n _ hn8, T.cl, T.nO, (by show 2 < 1000; decide), ?_⟩
        obtain ⟨Hc, hHc⟩ : ∃ Hc, Hc = upd Hb n (.ins C dx (putF "outs_by_pond" (.ref D3) (putF "width_by_pair" (.ref D2) (putF "brim_by_pond" (.ref D) [])))) := ⟨_, rfl⟩
        have nn3 : n ≠ D3 := ne_of_none hn8 nD38
        have hnc : Hc n = some (.ins C dx (putF "outs_by_pond" (.ref D3) (putF "width_by_pair" (.ref D2) (putF "brim_by_pond" (.ref D) [])))) := by rw [hHc, upd_same]
        have keepC : ∀ {b : Addr} {o : HO}, Hb b = some o → (∀ fs, o ≠ .ins C dx fs) → Hc b = some o := fun {b o} e no => by
          rw [hHc, upd_ne (fun z => by rw [z, sb n _ hn8] at e; exact no _ (Option.some.inj e).symm)]; exact e
        have hDc : Hc D = some (.dK (bk (reB B ys))) := keepC (sb D _ hD8) (fun v e => by cases e)
        have hWc : Hc D2 = some (.dT (pt (reP Pp (qs.map (·.2))))) := keepC (sb D2 _ hW8) (fun v e => by cases e)
        have Sc : SideAt Hc D3 (outsOf (reP Pp (qs.map (·.2)))) (nms (reB B ys)) := by
          obtain ⟨ls, e1, _⟩ := id Sb
          exact Sb.keep (fun x e => by rw [e1] at e; cases e; exact keepC e1 (fun v e => by cases e)) (fun b oq xs e => keepC e (fun v e => by cases e)) (fun b xs e => keepC e (fun v e => by cases e))
        have kc : ∀ c o, H c = some o → c ≠ n → Hc c = some o := fun c o ec nc => by rw [hHc, upd_ne nc]; exact sb c o (k8 c o ec nc)
        rw [← hHc]
        -- self.ins_by_pond
        refine ⟨D, _, hDc, trivial, fun od2 => ?_⟩
        have hnd : (upd Hc D (.frz od2 (.dK (bk (reB B ys))))) n = some (.ins C dx (putF "outs_by_pond" (.ref D3) (putF "width_by_pair" (.ref D2) (putF "brim_by_pond" (.ref D) [])))) := by rw [upd_ne nDn8]; exact hnc
        have hWd : (upd Hc D (.frz od2 (.dK (bk (reB B ys))))) D2 = some (.dT (pt (reP Pp (qs.map (·.2))))) := by rw [upd_ne nDW]; exact hWc
        refine ⟨.ref n, rfl, n, C, dx, _, _, rfl, hnd, T.cl, T.nB, f3_b D D2 D3, D, od2, rfl, .inl ⟨_, upd_same, fun D4 nD4 => ?_⟩⟩
        have d4D : D4 ≠ D := fun e => by subst e; rw [upd_same] at nD4; cases nD4
        have nD4c : Hc D4 = none := by rw [upd_ne d4D] at nD4; exact nD4
        refine side_dc (g := insOf (reP Pp (qs.map (·.2)))) wf2.nb wf2.lb upd_same nD4 (fun z => rfl) (fun z => rfl) (fun z Hd R mz sd h => ?_) (fun Hd Sd sd => ?_)
        · exact ⟨.ref n, rfl, n, C, dx, _, _, rfl, sd n _ hnd, T.cl, T.nW, f3_w D D2 D3, .str z, rfl, D2, _, z, rfl, sd D2 _ hWd, wf2.np, wf2.lp, h⟩
        obtain ⟨l2, se⟩ := same_lock hDc sd
        refine ⟨l2, ?_⟩
        have Se := Sd.unlock l2
        obtain ⟨He, hHe⟩ : ∃ He, He = upd Hd D (.dK (bk (reB B ys))) := ⟨_, rfl⟩
        rw [← hHe] at se Se
        rw [← hHe]
        refine ⟨.ref n, rfl, n, C, dx, _, rfl, se n _ hnc, T.cl, T.nI, (by show 3 < 1000; decide), ?_⟩
        have keepF : ∀ {b : Addr} {o : HO}, He b = some o → (∀ fs, o ≠ .ins C dx fs) → (upd He n (.ins C dx (nf D ⟨D2, D3, D4⟩))) b = some o := fun {b o} e no => by
          rw [upd_ne (fun z => by rw [z, se n _ hnc] at e; exact no _ (Option.some.inj e).symm)]; exact e
        have fin : ∀ {d : Addr} {g : Str → List (Str × Int)} {l : List Str}, SideAt He d g l → SideAt (upd He n (.ins C dx (nf D ⟨D2, D3, D4⟩))) d g l := fun {d g l} S => by
          obtain ⟨ls, e1, _⟩ := id S
          exact S.keep (fun x e => by rw [e1] at e; cases e; exact keepF e1 (fun v e => by cases e)) (fun b oq xs e => keepF e (fun v e => by cases e)) (fun b xs e => keepF e (fun v e => by cases e))
        have newc : ∀ {d : Addr}, Hc d = none → H d = none := fun {d} e => by
          cases eh : H d with
          | none => rfl
          | some o =>
            by_cases en : d = n
            · rw [en, hnc] at e; cases e
            · rw [kc d o eh en] at e; cases e
        have new8 : ∀ {d : Addr}, H8 d = none → H d = none := fun {d} e => by
          cases eh : H d with
          | none => rfl
          | some o =>
            by_cases en : d = n
            · rw [en, hn8] at e; cases e
            · rw [k8 d o eh en] at e; cases e
        have hw0 : H D2 = none := by
          cases h : H D2 with
          | none => rfl
          | some o =>
            have := sF D2 o (k6 D2 o h (Ne.symm nD2n))
            rw [nD2] at this; cases this
        refine q (upd He n (.ins C dx (nf D ⟨D2, D3, D4⟩))) (reB B ys) (reP Pp (qs.map (·.2))) ⟨dx, D, ⟨D2, D3, D4⟩, upd_same, keepF (se D _ hDc) (fun v e => by cases e), keepF (se D2 _ hWc) (fun v e => by cases e), fin (Sc.same se), fin Se⟩
          (reB_perm wf.nb pm) (reP_perm wf.np pm2) (by rw [eB]; exact srt) (by rw [eP]; exact srt2) ⟨dx, D, ⟨D2, D3, D4⟩, upd_same, (s14.trans sE).free nD, new8 nD38, newc nD4c, hw0⟩ (fun c o ec nc => ?_)
        rw [upd_ne nc]; exact se c o (kc c o ec nc)
end
end Nl
end
section
set_option maxHeartbeats 1000000
namespace Nl
open PySem PySem.Spec PyProof.Rows L2 Nt
theorem no_attr {d1 : Addr} {d2 : Dd} {m : Str} (h1 : ¬ m = "width_by_pair" := by decide +kernel) (h2 : ¬ m = "brim_by_pond" := by decide +kernel) (h3 : ¬ m = "outs_by_pond" := by decide +kernel) (h4 : ¬ m = "ins_by_pond" := by decide +kernel) : (nf d1 d2).lookup m = none := nf_no d1 d2 h1 h2 h3 h4
theorem SideAt.val {H : Hp} {d : Addr} {g : Str → List (Str × Int)} {l : List Str} {z : Str} (h : SideAt H d g l) (nd : l.Nodup) (mz : z ∈ l) : ∃ kvs p as od, H d = some (.dK kvs) ∧ valV kvs (Sum.inr z) = some (.ref p) ∧ H p = some (.frz od (.lst (as.map V.ref))) ∧ PairsAt H as (g z) := by
  obtain ⟨ls, a, b, c⟩ := h
  rw [← b] at mz nd
  obtain ⟨p, hp, e⟩ := List.mem_map.mp mz
  have e' : p.1 = z := e
  subst e'
  obtain ⟨as, od, e1, e2⟩ := c p hp
  refine ⟨_, p.2, as, od, a, ?_, e1, e2⟩
  clear a b c e1 e2 e mz
  unfold valV
  induction ls with
  | nil => exact (List.not_mem_nil hp).elim
  | cons x r ih =>
    rw [List.map_cons, List.nodup_cons] at nd
    rw [List.map_cons, List.find?_cons]
    rcases List.mem_cons.mp hp with rfl | hp
    · rw [show decide (((Sum.inr p.1 : Key), V.ref p.2).1 = Sum.inr p.1) = true from decide_eq_true rfl]; rfl
    · have : x.1 ≠ p.1 := fun e => nd.1 (by rw [e]; exact List.mem_map.mpr ⟨p, hp, rfl⟩)
      rw [show decide (((Sum.inr x.1 : Key), V.ref x.2).1 = Sum.inr p.1) = false from decide_eq_false (fun e => this (Sum.inr.inj e))]
      exact ih nd.2 hp
section
variable {P : Program} {w : World} {K : PySem.W.Frag} {mg : Str → Option Value} {base : Heap}
theorem scHas : FnScope ["self", "thing"] ["self", "thing"] (defScope mNet_has_pond) := ⟨rfl, rfl, rfl, by decide +kernel, rfl, by decide +kernel, by decide +kernel⟩
structure NetRd (C : Addr) (H : Hp) (n : Addr) (B : Br) : Prop where
  at_ : ∃ dx d1 d2, H n = some (.ins C dx (nf d1 d2)) ∧ Rd H d1 (.dK (bk B))
theorem NetAt.rd {C : Addr} {H : Hp} {n : Addr} {B : Br} {Pp : Pi} (h : NetAt C H n B Pp) : NetRd C H n B := by
  obtain ⟨dx, d1, d2, a, b, _⟩ := h
  exact ⟨dx, d1, d2, a, .inl b⟩
def spHas (C : Addr) : Sp := fun vs H Q _ => ∃ (n : Addr) (B : Br) (z : Str), vs = [.ref n, .str z] ∧ NetRd C H n B ∧ Sm 25 z ∧ ∀ H', Same H H' → Q (.bl (nameB z && decide (z ∈ nms B))) H'
theorem ok_has {f C f1 : Addr} {fd fd1 : FuncData} (F : Fun K "has_pond" "Net.has_pond" mNet_has_pond f fd) (T : TxN K mg C)
    (F1 : Fun K "is_pond_of" "is_pond_of" sPondOf f1 fd1) (G1 : FnOk P w K mg base CX0 2 f1 fd1 ["brims", "thing"] spPondOf) (b1 : Binds K fd1 ["brims", "thing"] []) (g1 : mg "is_pond_of" = some (.ref f1)) :
    FnOk P w K mg base CX0 3 f fd ["self", "thing"] (spHas C) := by
  refine F.ok scHas (fun vs H Q E h => ?_) (fun cdv A outer s H vs Q E hr h => ?_)
  · obtain ⟨n, B, z, rfl, _⟩ := h
    rfl
  · obtain ⟨n, B, z, rfl, ⟨dx, d1, d2, hn, h1⟩, hz, q⟩ := h
    refine ⟨_, pss_one (ps_ret (pe_call G1 hr (by rfl) g1 F1.kp b1 .nil pass0 (pa_cons (pe_fld (pv 0) rfl) (pa_cons (pv 1) pa_nil)))), ?_⟩
    exact ⟨.ref n, rfl, n, C, dx, _, _, rfl, hn, T.cl, T.nB, nf_b d1 d2, .str z, rfl, d1, B, z, rfl, h1, hz, q⟩
theorem scChk : FnScope ["self", "thing"] ["self", "thing"] (defScope mNet_check_pond) := ⟨rfl, rfl, rfl, by decide +kernel, rfl, by decide +kernel, by decide +kernel⟩
def spChk (C : Addr) : Sp := fun vs H Q _ => ∃ (n : Addr) (B : Br) (Pp : Pi) (z : Str), vs = [.ref n, .str z] ∧ NetAt C H n B Pp ∧ Nm z ∧ z ∈ nms B ∧ ∀ H', Same H H' → Q .non H'
theorem ok_chk {f C f1 : Addr} {fd fd1 : FuncData} (F : Fun K "check_pond" "Net.check_pond" mNet_check_pond f fd) (T : TxN K mg C)
    (m1 : Meth K C "has_pond" f1) (G1 : FnOk P w K mg base CX0 3 f1 fd1 ["self", "thing"] (spHas C)) (b1 : Binds K fd1 ["self", "thing"] []) : FnOk P w K mg base CX0 4 f fd ["self", "thing"] (spChk C) := by
  refine F.ok scChk (fun vs H Q E h => ?_) (fun cdv A outer s H vs Q E hr h => ?_)
  · obtain ⟨n, B, Pp, z, rfl, _⟩ := h
    rfl
  · obtain ⟨n, B, Pp, z, rfl, N, nz, mz, q⟩ := h
    obtain ⟨dx, d1, d2, hn, h1, h2⟩ := N.at_
    refine ⟨_, pss_one (ps_if (pt_not (pt_val (pe_meth (pv 0) T.cl m1 G1 hr b1 .nil pass0 (pa_cons (pv 1) pa_nil)))) (pss_one ps_never) pss_nil), ?_⟩
    refine ⟨.ref n, rfl, n, dx, _, rfl, hn, no_attr, .str z, rfl, n, B, z, rfl, N.rd, nz.sm.mono (by decide), fun H1 s1 => ?_⟩
    rw [show nameB z = true from nz, decide_eq_true mz]
    exact ⟨true, rfl, iteF (q H1 s1)⟩
theorem scPonds : FnScope ["self"] ["self"] (defScope mNet_ponds) := ⟨rfl, rfl, rfl, by decide +kernel, rfl, by decide +kernel, by decide +kernel⟩
def spPonds (C : Addr) : Sp := fun vs H Q _ => ∃ (n : Addr) (B : Br) (Pp : Pi), vs = [.ref n] ∧ NetAt C H n B Pp ∧ ∀ p, H p = none → Q (.ref p) (upd H p (.lst ((nms B).map V.str)))
theorem ok_ponds {f C : Addr} {fd : FuncData} {k : Nat} (F : Fun K "ponds" "Net.ponds" mNet_ponds f fd) (T : TxN K mg C) (ml : mg "list" = none) : FnOk P w K mg base CX0 (k + 1) f fd ["self"] (spPonds C) := by
  refine F.ok scPonds (fun vs H Q E h => ?_) (fun cdv A outer s H vs Q E hr h => ?_)
  · obtain ⟨n, B, Pp, rfl, _⟩ := h
    rfl
  · obtain ⟨n, B, Pp, rfl, ⟨dx, d1, d2, hn, h1, h2⟩, q⟩ := h
    refine ⟨_, pss_one (ps_ret (pe_callTy (call_listD rfl) (by rfl) ml (by decide +kernel) (pa_cons (pe_fld (pv 0) rfl) pa_nil))), ?_⟩
    refine ⟨.ref n, rfl, n, C, dx, _, _, rfl, hn, T.cl, T.nB, nf_b d1 d2, d1, _, rfl, .inl h1, fun p np => ?_⟩
    have := q p np
    unfold nms at this
    unfold bk
    rw [List.map_map] at this ⊢
    exact this
theorem scBrim : FnScope ["self", "name"] ["self", "name"] (defScope mNet_brim) := ⟨rfl, rfl, rfl, by decide +kernel, rfl, by decide +kernel, by decide +kernel⟩
def spBrim (C : Addr) : Sp := fun vs H Q _ => ∃ (n : Addr) (B : Br) (Pp : Pi) (z : Str) (c : Int), vs = [.ref n, .str z] ∧ NetAt C H n B Pp ∧ Nm z ∧ getB B z = some c ∧ ∀ H', Same H H' → Q (.int c) H'
theorem ok_brim {f C f1 : Addr} {fd fd1 : FuncData} (F : Fun K "brim" "Net.brim" mNet_brim f fd) (T : TxN K mg C) (m1 : Meth K C "check_pond" f1) (G1 : FnOk P w K mg base CX0 4 f1 fd1 ["self", "thing"] (spChk C)) (b1 : Binds K fd1 ["self", "thing"] []) :
    FnOk P w K mg base CX0 5 f fd ["self", "name"] (spBrim C) := by
  refine F.ok scBrim (fun vs H Q E h => ?_) (fun cdv A outer s H vs Q E hr h => ?_)
  · obtain ⟨n, B, Pp, z, c, rfl, _⟩ := h
    rfl
  · obtain ⟨n, B, Pp, z, c, rfl, N, nz, gz, q⟩ := h
    obtain ⟨dx, d1, d2, hn, h1, h2⟩ := N.at_
    have mz : z ∈ nms B := List.mem_map.mpr ⟨_, getB_mem gz, rfl⟩
    refine ⟨_, pss_cons (ps_expr (pe_meth (pv 0) T.cl m1 G1 hr b1 .nil pass0 (pa_cons (pv 1) pa_nil))) (pss_one (ps_ret (pe_dget (hu_of hr) (pe_fld (pv 0) rfl) (pv 1) (fun _ _ => rfl)))), ?_⟩
    refine ⟨.ref n, rfl, n, dx, _, rfl, hn, no_attr, .str z, rfl, n, B, Pp, z, rfl, N, nz, mz, fun H1 s1 => ?_⟩
    exact ⟨.ref n, rfl, n, C, dx, _, _, rfl, s1 n _ hn, T.cl, T.nB, nf_b d1 d2, .str z, rfl, d1, .int c, rfl, .inl ⟨_, Sum.inr z, .inl (s1 d1 _ h1), rfl, by rw [valV_bk, gz]; rfl⟩, q H1 s1⟩
theorem scIns : FnScope ["self", "name"] ["self", "name"] (defScope mNet_ins) := ⟨rfl, rfl, rfl, by decide +kernel, rfl, by decide +kernel, by decide +kernel⟩
def spIns (C : Addr) : Sp := fun vs H Q _ => ∃ (n : Addr) (B : Br) (Pp : Pi) (z : Str), vs = [.ref n, .str z] ∧ NetAt C H n B Pp ∧ Good B Pp ∧ Nm z ∧ z ∈ nms B ∧
  ∀ H' p as, Same H H' → H p = none → H' p = some (.lst (as.map V.ref)) → PairsAt H' as (insOf Pp z) → Q (.ref p) H'
theorem ok_ins {f C f1 : Addr} {fd fd1 : FuncData} (F : Fun K "ins" "Net.ins" mNet_ins f fd) (T : TxN K mg C) (m1 : Meth K C "check_pond" f1) (G1 : FnOk P w K mg base CX0 4 f1 fd1 ["self", "thing"] (spChk C)) (b1 : Binds K fd1 ["self", "thing"] []) (ml : mg "list" = none) :
    FnOk P w K mg base CX0 5 f fd ["self", "name"] (spIns C) := by
  refine F.ok scIns (fun vs H Q E h => ?_) (fun cdv A outer s H vs Q E hr h => ?_)
  · obtain ⟨n, B, Pp, z, rfl, _⟩ := h
    rfl
  · obtain ⟨n, B, Pp, z, rfl, N, good, nz, mz, q⟩ := h
    obtain ⟨dx, d1, d2, hn, h1, h2, h3, h4⟩ := N.at_
    refine ⟨_, pss_cons (ps_expr (pe_meth (pv 0) T.cl m1 G1 hr b1 .nil pass0 (pa_cons (pv 1) pa_nil))) (pss_one (ps_ret (pe_callTy call_list_of (by rfl) ml (by decide +kernel) (pa_cons (pe_dget (hu_of hr) (pe_fld (pv 0) rfl) (pv 1) (fun _ _ => rfl)) pa_nil)))), ?_⟩
    refine ⟨.ref n, rfl, n, dx, _, rfl, hn, no_attr, .str z, rfl, n, B, Pp, z, rfl, N, nz, mz, fun H1 s1 => ?_⟩
    obtain ⟨kvs, p, as, od, e1, e2, e3, e4⟩ := (h4.same s1).val good.wf.nb mz
    refine ⟨.ref n, rfl, n, C, dx, _, _, rfl, s1 n _ hn, T.cl, T.nI, nf_i d1 d2, .str z, rfl, d2.i, .ref p, rfl, .inl ⟨_, Sum.inr z, .inl e1, rfl, e2.symm⟩, p, _, rfl, .inl (.inl (.inr ⟨od, e3⟩)), fun l nl => ?_⟩
    have sn := same_new (o := .lst (as.map V.ref)) nl
    exact q _ l as (s1.trans sn) (s1.free nl) upd_same (e4.same sn)
theorem scBrims : FnScope ["self", "name"] ["self"] (defScope mNet_brims) := ⟨rfl, rfl, rfl, by decide +kernel, rfl, by decide +kernel, by decide +kernel⟩
def spBrims (C : Addr) : Sp := fun vs H Q _ => ∃ (n : Addr) (B : Br) (Pp : Pi), vs = [.ref n] ∧ NetAt C H n B Pp ∧ Good B Pp ∧ ∀ H' p, Same H H' → H p = none → H' p = some (.dK (bk B)) → Q (.ref p) H'
theorem ok_brims {f C : Addr} {fd : FuncData} {k : Nat} (F : Fun K "brims" "Net.brims" mNet_brims f fd) (T : TxN K mg C) : FnOk P w K mg base CX0 (k + 1) f fd ["self"] (spBrims C) := by
  refine F.ok scBrims (fun vs H Q E h => ?_) (fun cdv A outer s H vs Q E hr h => ?_)
  · obtain ⟨n, B, Pp, rfl, _⟩ := h
    rfl
  · obtain ⟨n, B, Pp, rfl, N, good, q⟩ := h
    obtain ⟨dx, d1, d2, hn, h1, h2⟩ := N.at_
    have wf := good.wf
    refine ⟨_, pss_one (ps_ret (pe_lock (Rl.pe_dcP (T := .dK []) (own := [("name", 1)]) (g := gName 1) (tt := tYes) (tk := tVar 1) (tv := tDGet (tFld K (tVar 0) "brim_by_pond") (tVar 1)) (.inr rfl) hr rfl scBrims.nd (pi_keys (pe_fld (pv 0) rfl))
      (blkOk_by (N := ["self", "name"]) (sc := defScope mNet_brims) (by decide +kernel)) (fun _ _ _ _ _ => pg_name (i := 1) scBrims.nd rfl (Or.inl rfl)) (fun _ _ _ _ _ => pts_nil)
      (fun _ _ _ _ _ => pv 1) (fun _ _ _ _ _ => pe_dget (hu_of hr) (pe_fld (pv 0) rfl) (pv 1) (fun _ _ => rfl))))), ?_⟩
    have nd1 : n ≠ d1 := fun e => by subst e; rw [hn] at h1; cases h1
    refine ⟨d1, _, h1, trivial, fun od => ?_⟩
    refine ⟨.ref n, rfl, n, C, dx, _, _, rfl, (by rw [upd_ne nd1]; exact hn), T.cl, T.nB, nf_b d1 d2, d1, od, rfl, .inl ⟨_, upd_same, fun D nD => ?_⟩⟩
    have hDd : D ≠ d1 := fun e => by subst e; rw [upd_same] at nD; cases nD
    have nDH : H D = none := by rw [upd_ne hDd] at nD; exact nD
    refine Rl.gc_it (n := (bk B).length) (b0 := fun _ => .dK []) walk_keys (fun i H2 => H2 D = some (.dK (bk (B.take i))) ∧ Same (upd H d1 (.frz od (.dK (bk B)))) H2) ⟨upd_same, same_new nD⟩ (fun i H2 _ h => h.2 d1 _ upd_same) ?_ ?_
    · rintro i x H2 H2' hi ⟨hD, sm⟩ ⟨rfl, kk, v, hkv, rfl⟩
      obtain ⟨p, hp, rfl, rfl⟩ := bk_at hkv
      have hm := List.mem_of_getElem? hp
      refine ⟨rfl, .str p.1, rfl, .ref n, rfl, n, C, dx, _, _, rfl, sm n _ (by rw [upd_ne nd1]; exact hn), T.cl, T.nB, nf_b d1 d2, .str p.1, rfl, d1, .int p.2, rfl, .inl ⟨_, Sum.inr p.1, .inr ⟨od, sm d1 _ upd_same⟩, rfl, ?_⟩, _, DPut.k (k := Sum.inr p.1) hD ?_, ?_, ?_⟩
      · rw [valV_bk, getB_of_mem wf.nb hm]; rfl
      · rw [bk_len, List.length_take]; have := wf.lb; exact small1000 (by omega)
      · have fr : p.1 ∉ nms (B.take i) := by
          have h3 : (nms B)[i]? = some p.1 := by unfold nms; rw [List.getElem?_map, hp]; rfl
          have h4 := take_nd wf.nb h3
          unfold nms at h4 ⊢
          rw [← List.map_take] at h4; exact h4
        rw [upd_same, putK_bk fr, List.take_add_one, hp]; rfl
      · exact fun c o ec => by
          have nb : c ≠ D := ne_of_none ec nD
          rw [upd_ne nb]; exact sm c o ec
    · rintro H2 ⟨hD, sm⟩
      obtain ⟨l1, l2⟩ := same_lock h1 sm
      rw [bk_len, List.take_length] at hD
      exact ⟨l1, q _ D l2 nDH (by rw [upd_ne hDd]; exact hD)⟩
theorem scPipes : FnScope ["self", "pair"] ["self"] (defScope mNet_pipes) := ⟨rfl, rfl, rfl, by decide +kernel, rfl, by decide +kernel, by decide +kernel⟩
def spPipes (C : Addr) : Sp := fun vs H Q _ => ∃ (n : Addr) (B : Br) (Pp : Pi), vs = [.ref n] ∧ NetAt C H n B Pp ∧ Good B Pp ∧ ∀ H' p, Same H H' → H p = none → H' p = some (.dT (pt Pp)) → Q (.ref p) H'
theorem ok_pipes {f C : Addr} {fd : FuncData} {k : Nat} (F : Fun K "pipes" "Net.pipes" mNet_pipes f fd) (T : TxN K mg C) : FnOk P w K mg base CX0 (k + 1) f fd ["self"] (spPipes C) := by
  refine F.ok scPipes (fun vs H Q E h => ?_) (fun cdv A outer s H vs Q E hr h => ?_)
  · obtain ⟨n, B, Pp, rfl, _⟩ := h
    rfl
  · obtain ⟨n, B, Pp, rfl, N, good, q⟩ := h
    obtain ⟨dx, d1, ⟨d2, dO, dI⟩, hn, h1, h2, _, _⟩ := N.at_
    have wf := good.wf
    refine ⟨_, pss_one (ps_ret (pe_lock (Rl.pe_dcP (T := .dT []) (own := [("pair", 1)]) (g := gName 1) (tt := tYes) (tk := tVar 1) (tv := tDGet (tFld K (tVar 0) "width_by_pair") (tVar 1)) (.inl rfl) hr rfl scPipes.nd (pi_keys (pe_fld (pv 0) rfl))
      (blkOk_by (N := ["self", "pair"]) (sc := defScope mNet_pipes) (by decide +kernel)) (fun _ _ _ _ _ => pg_name (i := 1) scPipes.nd rfl (Or.inl rfl)) (fun _ _ _ _ _ => pts_nil)
      (fun _ _ _ _ _ => pv 1) (fun _ _ _ _ _ => pe_dget (hu_of hr) (pe_fld (pv 0) rfl) (pv 1) (fun _ _ => rfl))))), ?_⟩
    have nd2 : n ≠ d2 := fun e => by subst e; rw [hn] at h2; cases h2
    refine ⟨d2, _, h2, trivial, fun od => ?_⟩
    refine ⟨.ref n, rfl, n, C, dx, _, _, rfl, (by rw [upd_ne nd2]; exact hn), T.cl, T.nW, nf_w d1 ⟨d2, dO, dI⟩, d2, od, rfl, .inr ⟨_, upd_same, fun D nD => ?_⟩⟩
    have hDd : D ≠ d2 := fun e => by subst e; rw [upd_same] at nD; cases nD
    have nDH : H D = none := by rw [upd_ne hDd] at nD; exact nD
    refine Rl.gc_it (n := (pt Pp).length) (b0 := fun _ => .dT []) walk_keysT (fun i H2 => H2 D = some (.dT (pt (Pp.take i))) ∧ Same (upd H d2 (.frz od (.dT (pt Pp)))) H2) ⟨upd_same, same_new nD⟩ (fun i H2 _ h => h.2 d2 _ upd_same) ?_ ?_
    · rintro i x H2 H2' hi ⟨hD, sm⟩ ⟨rfl, kk, v, qq, hkv, rfl, hq⟩
      obtain ⟨p, hp, rfl, rfl⟩ := pt_at hkv
      have hm := List.mem_of_getElem? hp
      refine ⟨rfl, .ref qq, rfl, .ref n, rfl, n, C, dx, _, _, rfl, sm n _ (by rw [upd_ne nd2]; exact hn), T.cl, T.nW, nf_w d1 ⟨d2, dO, dI⟩, .ref qq, rfl, d2, .int p.2, rfl, .inr ⟨_, Rl.pk p.1, qq, .inr ⟨od, sm d2 _ upd_same⟩, rfl, hq, ?_⟩, _, DPut.t (k := Rl.pk p.1) hD hq ?_, ?_, ?_⟩
      · rw [valV_pt, getP_of_mem wf.np (show (p.1, p.2) ∈ Pp from hm)]; rfl
      · rw [pt_len, List.length_take]; have := wf.lp; exact small1000 (by omega)
      · have fr : p.1 ∉ (Pp.take i).map Prod.fst := by
          have h3 : (Pp.map Prod.fst)[i]? = some p.1 := by rw [List.getElem?_map, hp]; rfl
          have h4 := take_nd wf.np h3
          rw [← List.map_take] at h4; exact h4
        rw [upd_same, putK_pt fr, List.take_add_one, hp]; rfl
      · exact fun c o ec => by
          have nb : c ≠ D := ne_of_none ec nD
          rw [upd_ne nb]; exact sm c o ec
    · rintro H2 ⟨hD, sm⟩
      obtain ⟨l1, l2⟩ := same_lock h2 sm
      rw [pt_len, List.take_length] at hD
      exact ⟨l1, q _ D l2 nDH (by rw [upd_ne hDd]; exact hD)⟩
end
end Nl
end
section
set_option maxHeartbeats 1000000
namespace Nl
open PySem PySem.Spec PyProof.Rows L2 Nt
/-! ### stands -/
theorem s12 : ¬ (("own_net" : Str) = "poured_by_pond") := by decide +kernel
theorem s13 : ¬ (("own_net" : Str) = "count_by_pond") := by decide +kernel
theorem s23 : ¬ (("poured_by_pond" : Str) = "count_by_pond") := by decide +kernel
def sf (n d1 d2 : Addr) : List (Str × V) := putF "count_by_pond" (.ref d2) (putF "poured_by_pond" (.ref d1) (putF "own_net" (.ref n) []))
theorem sf_n (n d1 d2 : Addr) : (sf n d1 d2).lookup ("own_net" : Str) = some (.ref n) := by
  unfold sf
  rw [lookup_putF, if_neg s13, lookup_putF, if_neg s12, lookup_putF, if_pos rfl]
theorem sf_p (n d1 d2 : Addr) : (sf n d1 d2).lookup ("poured_by_pond" : Str) = some (.ref d1) := by
  unfold sf
  rw [lookup_putF, if_neg s23, lookup_putF, if_pos rfl]
theorem sf_c (n d1 d2 : Addr) : (sf n d1 d2).lookup ("count_by_pond" : Str) = some (.ref d2) := by
  unfold sf
  rw [lookup_putF, if_pos rfl]
theorem sf_no {n d1 d2 : Addr} {m : Str} (h1 : ¬ m = "count_by_pond" := by decide +kernel) (h2 : ¬ m = "poured_by_pond" := by decide +kernel) (h3 : ¬ m = "own_net" := by decide +kernel) : (sf n d1 d2).lookup m = none := by
  unfold sf
  rw [lookup_putF, if_neg h1, lookup_putF, if_neg h2, lookup_putF, if_neg h3]; rfl
structure StandAt (CS C : Addr) (H : Hp) (s : Addr) (B : Br) (Pp : Pi) (Qp Qc : Br) : Prop where
  at_ : ∃ dx n d1 d2, H s = some (.ins CS dx (sf n d1 d2)) ∧ NetAt C H n B Pp ∧ H d1 = some (.dK (bk Qp)) ∧ H d2 = some (.dK (bk Qc))
theorem StandAt.same {CS C : Addr} {H H' : Hp} {s : Addr} {B : Br} {Pp : Pi} {Qp Qc : Br} (h : StandAt CS C H s B Pp Qp Qc) (sm : Same H H') : StandAt CS C H' s B Pp Qp Qc := by
  obtain ⟨dx, n, d1, d2, a, b, c, d⟩ := h
  exact ⟨dx, n, d1, d2, sm _ _ a, b.same sm, sm _ _ c, sm _ _ d⟩
structure TxS (K : PySem.W.Frag) (mg : Str → Option Value) (CS : Addr) : Prop where
  cl : Cls K CS
  nN : NoAttr K CS "own_net"
  nP : NoAttr K CS "poured_by_pond"
  nC : NoAttr K CS "count_by_pond"
  mgC : mg "Stand" = some (.ref CS)
/-- a table that may be handed in -/
structure Tab (H : Hp) (v : V) (B Qd : Br) : Prop where
  at_ : (v = .non ∧ Qd = []) ∨ ∃ a, v = .ref a ∧ H a = some (.dK (bk Qd))
  nd : (nms Qd).Nodup
  ln : Qd.length ≤ 200
  ok : ∀ p ∈ Qd, p.1 ∈ nms B ∧ 0 ≤ p.2
theorem Tab.same {H H' : Hp} {v : V} {B Qd : Br} (h : Tab H v B Qd) (s : Same H H') : Tab H' v B Qd :=
  ⟨h.at_.imp id fun ⟨a, e, q⟩ => ⟨a, e, s _ _ q⟩, h.nd, h.ln, h.ok⟩
def val0 (Qd : Br) (x : Str) : Int := (getB Qd x).getD 0
def fill (B Qd : Br) : Br := (nms B).map fun x => (x, val0 Qd x)
theorem nms_map (l : List Str) (f : Str → Int) : nms (l.map fun x => (x, f x)) = l := by
  unfold nms
  rw [List.map_map]
  exact List.map_id' _
theorem fill_nms (B Qd : Br) : nms (fill B Qd) = nms B := nms_map _ _
theorem getB_map {l : List Str} {f : Str → Int} {x : Str} (nd : l.Nodup) (h : x ∈ l) : getB (l.map fun y => (y, f y)) x = some (f x) :=
  getB_of_mem (by rw [nms_map]; exact nd) (List.mem_map.mpr ⟨x, h, rfl⟩)
theorem cut_nil : cutV ([] : List V) none (some 1) = [] := by
  unfold cutV; simp
section
variable {P : Program} {w : World} {K : PySem.W.Frag} {mg : Str → Option Value} {base : Heap}
theorem scWrong : FnScope ["net", "table", "key"] ["net", "table"] (defScope sWrong) := ⟨rfl, rfl, rfl, by decide +kernel, rfl, by decide +kernel, by decide +kernel⟩
def spWrong (C : Addr) : Sp := fun vs H Q _ => ∃ (n : Addr) (t : V) (B : Br) (Pp : Pi) (Qd : Br), vs = [.ref n, t] ∧ NetAt C H n B Pp ∧ Good B Pp ∧ Tab H t B Qd ∧ ∀ H' p, Same H H' → H p = none → H' p = some (.lst []) → Q (.ref p) H'
theorem ok_wrong {f C f1 f2 : Addr} {fd fd1 fd2 : FuncData} (F : Fun K "wrong_keys" "wrong_keys" sWrong f fd) (T : TxN K mg C)
    (m1 : Meth K C "has_pond" f1) (G1 : FnOk P w K mg base CX0 3 f1 fd1 ["self", "thing"] (spHas C)) (b1 : Binds K fd1 ["self", "thing"] [])
    (F2 : Fun K "is_whole" "is_whole" sWhole f2 fd2) (G2 : FnOk P w K mg base CX0 1 f2 fd2 ["thing", "least"] spWhole) (b2 : Binds K fd2 ["thing", "least"] []) (g2 : mg "is_whole" = some (.ref f2))
    (mi : mg "isinstance" = none) (md : mg "dict" = none) : FnOk P w K mg base CX0 4 f fd ["net", "table"] (spWrong C) := by
  refine F.ok scWrong (fun vs H Q E h => ?_) (fun cdv A outer s H vs Q E hr h => ?_)
  · obtain ⟨n, t, B, Pp, Qd, rfl, _⟩ := h
    rfl
  · obtain ⟨n, t, B, Pp, Qd, rfl, N, good, tab, q⟩ := h
    obtain ⟨dx, d1, d2, hn, h1, h2⟩ := N.at_
    refine ⟨_, pss_cons (ps_if (pt_cmp (pc_isN (pv 1))) (pss_one (ps_ret (pe_lst pa_nil))) pss_nil)
      (pss_cons (ps_if (pt_not (pt_val (pe_callB call_isi (by rfl) mi (by decide +kernel) (pa_cons (pv 1) (pa_cons (pe_bltn (v := .ty "dict") (by rfl) md (by decide +kernel) rfl) pa_nil))))) (pss_one (ps_never)) pss_nil)
      (pss_one (ps_ret (pe_slice sl_list (pe_lock (pe_lc (own := [("key", 2)]) (g := gName 2) rfl scWrong.nd (pi_keys (pv 1))
        (blkOk_by (N := ["net", "table", "key"]) (sc := defScope sWrong) (by decide +kernel)) (fun _ _ _ _ _ => pg_name (i := 2) scWrong.nd rfl (Or.inl rfl))
        (fun _ _ _ _ _ => pts_one (PW.pt (pw_or (pt_not (pt_val (pe_meth (pv 0) T.cl m1 G1 hr b1 .nil pass0 (pa_cons (pv 2) pa_nil)))) (pw_or1 (pt_not (pt_val (pe_call G2 (hr.mono (by decide)) (by rfl) g2 F2.kp b2 .nil pass0 (pa_cons (pe_dget (hu_of hr) (pv 1) (pv 2) (fun _ _ => rfl)) (pa_cons pe_int pa_nil)))))))))
        (fun _ _ _ _ _ => pv 2))) po_none (po_some pe_int))))), ?_⟩
    rcases tab.at_ with ⟨rfl, rfl⟩ | ⟨a, rfl, hA⟩
    · refine ⟨.non, rfl, true, rfl, iteT ⟨Nat.zero_le _, fun p np => ?_⟩⟩
      exact q _ p (same_new np) np upd_same
    · refine ⟨.ref a, rfl, false, rfl, iteF ?_⟩
      refine ⟨.ref a, rfl, .ref a, .ty "dict", .type "dict", .type "dict", true, rfl, .ty _, .base (.dK hA), kit_ty (by decide +kernel), true, rfl, iteF ?_⟩
      refine ⟨a, _, hA, trivial, fun od => ?_⟩
      refine ⟨.ref a, rfl, a, od, rfl, .inl ⟨_, upd_same, fun D nD => ?_⟩⟩
      have hDa : D ≠ a := fun e => by subst e; rw [upd_same] at nD; cases nD
      have nDH : H D = none := by rw [upd_ne hDa] at nD; exact nD
      have sN : ∀ {H1 : Hp}, Same (upd H a (.frz od (.dK (bk Qd)))) H1 → NetRd C H1 n B := fun {H1} sm => by
        have na : n ≠ a := fun e => by subst e; rw [hn] at hA; cases hA
        refine ⟨dx, d1, d2, sm n _ (by rw [upd_ne na]; exact hn), ?_⟩
        by_cases had : d1 = a
        · rw [had] at h1
          rw [hA] at h1
          have e1 : HO.dK (bk Qd) = HO.dK (bk B) := Option.some.inj h1
          rw [had, ← e1]
          exact .inr ⟨od, sm a _ upd_same⟩
        · exact .inl (sm d1 _ (by rw [upd_ne had]; exact h1))
      refine lc_it (n := (bk Qd).length) walk_keys (fun i H1 => H1 D = some (.lst []) ∧ Same (upd H a (.frz od (.dK (bk Qd)))) H1) ⟨upd_same, same_new nD⟩ (fun i H1 _ h => h.2 a _ upd_same) ?_ ?_
      · rintro i x H1 H1' hi ⟨hD, sm⟩ ⟨rfl, kk, v, hkv, rfl⟩
        obtain ⟨p, hp, rfl, rfl⟩ := bk_at hkv
        have hm := List.mem_of_getElem? hp
        obtain ⟨o1, o2⟩ := tab.ok p hm
        obtain ⟨pb, hpb, eb⟩ := List.mem_map.mp o1
        have nz : Nm p.1 := by rw [← (show pb.1 = p.1 from eb)]; exact (good.wf.rb pb hpb).1
        have N1 := sN sm
        obtain ⟨dx', d1', d2', hn', _⟩ := N1.at_
        refine ⟨rfl, .ref n, rfl, n, dx', _, rfl, hn', no_attr, .str p.1, rfl, n, B, p.1, rfl, N1, nz.sm.mono (by decide), fun H2 s2 => ?_⟩
        rw [show nameB p.1 = true from nz, decide_eq_true o1]
        refine ⟨true, rfl, iteF ?_⟩
        refine ⟨.ref a, rfl, .str p.1, rfl, a, .int p.2, rfl, .inl ⟨_, Sum.inr p.1, .inr ⟨od, s2 a _ (sm a _ upd_same)⟩, rfl, by rw [valV_bk, getB_of_mem tab.nd hm]; rfl⟩, p.2, 0, rfl, ?_⟩
        rw [decide_eq_true (show p.2 ≥ 0 from o2)]
        exact ⟨true, rfl, iteF ⟨s2 D _ hD, sm.trans s2⟩⟩
      · rintro H1 ⟨hD, sm⟩
        obtain ⟨l1, l2⟩ := same_lock hA sm
        refine ⟨l1, 1, rfl, D, [], rfl, SqL.of (by rw [upd_ne hDa]; exact hD), fun p np => ?_⟩
        rw [cut_nil]
        exact q _ p (l2.trans (same_new np)) (l2.free np) upd_same
end
end Nl
end
section
set_option maxHeartbeats 1000000
namespace Nl
open PySem PySem.Spec PyProof.Rows L2 Nt
theorem getD_val (Qd : Br) (z : Str) : (((getB Qd z).map V.int).getD (.int 0)) = .int (val0 Qd z) := by
  unfold val0
  cases getB Qd z <;> rfl
def mapN (l : List Str) (f : Str → Int) : Br := l.map fun x => (x, f x)
theorem mapN_take (l : List Str) (f : Str → Int) (i : Nat) {z : Str} (h : l[i]? = some z) : mapN (l.take (i + 1)) f = mapN (l.take i) f ++ [(z, f z)] := by
  unfold mapN
  rw [List.take_add_one, h, List.map_append]; rfl
/-- a dict comprehension over the ponds' list -/
theorem ponds_dc {K : PySem.W.Frag} {l : List Str} {f : Str → Int} {e D : Addr} {H1 : Hp} {σ : L2.St} {tv : TE} {j : Nat} {Qd : Hp → Prop} (G : Hp → Prop) (hG : ∀ {H H' : Hp}, Same H H' → G H → G H') (nd : l.Nodup) (ln : l.length ≤ 12) (he : H1 e = some (.lst (l.map V.str))) (g1 : G H1) (nD : H1 D = none)
    (hj : ∀ z : Str, ((wipe σ [j]).set j (some (.str z)))[j]? = some (some (V.str z))) (hw : ∀ z : Str, wipe ((wipe σ [j]).set j (some (.str z))) [j] = wipe σ [j])
    (ht : ∀ (z : Str) (H2 : Hp) (R : V → Hp → Prop), z ∈ l → Same H1 H2 → G H2 → (∀ H3, Same H2 H3 → R (.int (f z)) H3) → tv ((wipe σ [j]).set j (some (.str z))) H2 R)
    (hd : ∀ H2, H2 D = some (.dK (bk (mapN l f))) → Same H1 H2 → Qd H2) :
    ∃ W : Nat → Nat → Hp → Prop, (∃ m, W 0 m (upd H1 D (.dK []))) ∧ ∀ i m H, W i m H →
      ((Itl K e).stop i H ∧ Qd H) ∨ ((Itl K e).go i H ∧ ∃ Nx : Hp → Prop, (∀ H', Nx H' → ∃ m', m' < m ∧ W (i + 1) m' H') ∧
        ∀ x H', (Itl K e).yld i H x H' → gName j x (wipe σ [j]) H' fun σ2 H2 => wipe σ2 [j] = wipe σ [j] ∧ tYes σ2 H2 fun b H3 => if b = true then Rl.tbD (tVar j) tv D σ2 H3 Nx else Nx H3) := by
  refine Rl.gc_it (b0 := fun _ => .dK []) (walk_list (K := K) (a := e) (xs := l.map V.str)) (fun i H2 => H2 D = some (.dK (bk (mapN (l.take i) f))) ∧ Same H1 H2) ⟨upd_same, same_new nD⟩ (fun i H2 _ h => SqL.of (h.2 e _ he)) ?_ ?_
  · rintro i x H2 H2' hi ⟨hD, sm⟩ ⟨rfl, hx⟩
    rw [List.getElem?_map] at hx
    cases hy : l[i]? with
    | none => rw [hy] at hx; cases hx
    | some z =>
      rw [hy] at hx
      have hx' : V.str z = x := Option.some.inj hx
      subst hx'
      refine ⟨hw z, ?_⟩
      show Rl.tbD (tVar j) tv D (List.set (wipe σ [j]) j (some (V.str z))) H2' fun H2 => H2 D = some (HO.dK (bk (mapN (List.take (i + 1) l) f))) ∧ Same H1 H2
      refine ⟨.str z, hj z, ht z H2' _ (List.mem_of_getElem? hy) sm (hG sm g1) fun H3 s3 => ⟨_, DPut.k (k := Sum.inr z) (s3 D _ hD) ?_, ?_, ?_⟩⟩
      · rw [bk_len]
        unfold mapN
        rw [List.length_map, List.length_take]
        exact small1000 (by omega)
      · have fr : z ∉ nms (mapN (l.take i) f) := by
          unfold mapN
          rw [nms_map]
          exact take_nd nd hy
        rw [upd_same, putK_bk fr, mapN_take l f i hy]
      · exact fun c o ec => by
          have nb : c ≠ D := ne_of_none ec nD
          rw [upd_ne nb]; exact s3 c o (sm c o ec)
  · rintro H2 ⟨hD, sm⟩
    rw [List.length_map, List.take_length] at hD
    exact hd H2 hD sm
theorem nms_len (B : Br) : (nms B).length = B.length := List.length_map _
section
variable {P : Program} {w : World} {K : PySem.W.Frag} {mg : Str → Option Value} {base : Heap}
theorem scForAll : FnScope ["net", "table", "name"] ["net", "table"] (defScope sForAll) := ⟨rfl, rfl, rfl, by decide +kernel, rfl, by decide +kernel, by decide +kernel⟩
def spForAll (C : Addr) : Sp := fun vs H Q _ => ∃ (n : Addr) (t : V) (B : Br) (Pp : Pi) (Qd : Br), vs = [.ref n, t] ∧ NetAt C H n B Pp ∧ Good B Pp ∧ Tab H t B Qd ∧ ∀ H' p, Same H H' → H p = none → H' p = some (.dK (bk (fill B Qd))) → Q (.ref p) H'
theorem ok_forAll {f C f1 : Addr} {fd fd1 : FuncData} (F : Fun K "for_all_ponds" "for_all_ponds" sForAll f fd) (T : TxN K mg C)
    (m1 : Meth K C "ponds" f1) (G1 : FnOk P w K mg base CX0 1 f1 fd1 ["self"] (spPonds C)) (b1 : Binds K fd1 ["self"] []) : FnOk P w K mg base CX0 2 f fd ["net", "table"] (spForAll C) := by
  refine F.ok scForAll (fun vs H Q E h => ?_) (fun cdv A outer s H vs Q E hr h => ?_)
  · obtain ⟨n, t, B, Pp, Qd, rfl, _⟩ := h
    rfl
  · obtain ⟨n, t, B, Pp, Qd, rfl, N, good, tab, q⟩ := h
    obtain ⟨dx, d1, d2, hn, h1, h2⟩ := N.at_
    have wf := good.wf
    have lN : (nms B).length ≤ 12 := by rw [nms_len]; exact wf.lb
    refine ⟨_, pss_cons (ps_if (pt_cmp (pc_isN (pv 1))) (pss_one (ps_ret (Rl.pe_dcP (T := .dK []) (own := [("name", 2)]) (g := gName 2) (tt := tYes) (.inr rfl) hr rfl scForAll.nd (pi_list (pe_meth0 (pv 0) T.cl m1 G1 hr b1 .nil pass0))
        (blkOk_by (N := ["net", "table", "name"]) (sc := defScope sForAll) (by decide +kernel)) (fun _ _ _ _ _ => pg_name (i := 2) scForAll.nd rfl (Or.inl rfl)) (fun _ _ _ _ _ => pts_nil) (fun _ _ _ _ _ => pv 2) (fun _ _ _ _ _ => pe_int)))) pss_nil)
      (pss_one (ps_ret (Rl.pe_dcP (T := .dK []) (own := [("name", 2)]) (g := gName 2) (tt := tYes) (.inr rfl) hr rfl scForAll.nd (pi_list (pe_meth0 (pv 0) T.cl m1 G1 hr b1 .nil pass0))
        (blkOk_by (N := ["net", "table", "name"]) (sc := defScope sForAll) (by decide +kernel)) (fun _ _ _ _ _ => pg_name (i := 2) scForAll.nd rfl (Or.inl rfl)) (fun _ _ _ _ _ => pts_nil) (fun _ _ _ _ _ => pv 2) (fun _ _ _ _ _ => pe_dget2 (hu_of hr) (pv 1) (pv 2) pe_int ⟨rfl, rfl, rfl, rfl⟩)))), ?_⟩
    rcases tab.at_ with ⟨rfl, rfl⟩ | ⟨a, rfl, hA⟩
    · refine ⟨.non, rfl, true, rfl, iteT ?_⟩
      refine ⟨.ref n, rfl, n, dx, _, rfl, hn, no_attr, n, B, Pp, rfl, N, fun e ne => ?_⟩
      refine ⟨e, rfl, ⟨_, SqL.of upd_same⟩, fun D nD => ?_⟩
      refine ponds_dc (K := K) (f := fun _ => 0) (fun _ => True) (fun _ _ => trivial) wf.nb lN upd_same trivial nD (fun z => rfl) (fun z => rfl) (fun z H2 R _ _ _ h => h H2 (Same.refl _)) (fun H2 hD sm => ?_)
      exact q H2 D ((same_new ne).trans sm) ((same_new ne).free nD) hD
    · refine ⟨.ref a, rfl, false, rfl, iteF ?_⟩
      refine ⟨.ref n, rfl, n, dx, _, rfl, hn, no_attr, n, B, Pp, rfl, N, fun e ne => ?_⟩
      refine ⟨e, rfl, ⟨_, SqL.of upd_same⟩, fun D nD => ?_⟩
      refine ponds_dc (K := K) (f := val0 Qd) (fun H => H a = some (.dK (bk Qd))) (fun s h => s _ _ h) wf.nb lN upd_same ((same_new ne) a _ hA) nD (fun z => rfl) (fun z => rfl) (fun z H2 R _ _ g h => ?_) (fun H2 hD sm => ?_)
      · refine ⟨.ref a, rfl, a, rfl, .inl ⟨_, .inl g⟩, .str z, rfl, _, .inl ⟨_, Sum.inr z, .inl g, rfl, rfl⟩, ?_⟩
        rw [valV_bk, getD_val]
        exact h H2 (Same.refl _)
      · exact q H2 D ((same_new ne).trans sm) ((same_new ne).free nD) hD
/-! ### Stand's making -/
theorem scSInit : FnScope ["self", "net", "poured", "counts", "wrong"] ["self", "net", "poured", "counts"] (defScope mStand_init) := ⟨rfl, rfl, rfl, by decide +kernel, rfl, by decide +kernel, by decide +kernel⟩
def spSInit (CS C : Addr) : Sp := fun vs H Q _ => ∃ (st dx n : Addr) (t u : V) (B : Br) (Pp : Pi) (Qp Qc : Br), vs = [.ref st, .ref n, t, u] ∧ H st = some (.ins CS dx []) ∧ NetAt C H n B Pp ∧ Good B Pp ∧ Tab H t B Qp ∧ Tab H u B Qc ∧
  ∀ H', StandAt CS C H' st B Pp (fill B Qp) (fill B Qc) → (∃ dx' d1 d2, H' st = some (.ins CS dx' (sf n d1 d2)) ∧ H d1 = none ∧ H d2 = none) → (∀ b o, H b = some o → b ≠ st → H' b = some o) → Q .non H'
theorem ok_sInit {f CS C f1 f2 : Addr} {fd fd1 fd2 : FuncData} (F : FunD K "__init__" "Stand.__init__" (defArgs mStand_init) (defBody mStand_init) (defScope mStand_init) [.non, .non] [] f fd) (T : TxS K mg CS)
    (F1 : Fun K "wrong_keys" "wrong_keys" sWrong f1 fd1) (G1 : FnOk P w K mg base CX0 4 f1 fd1 ["net", "table"] (spWrong C)) (b1 : Binds K fd1 ["net", "table"] []) (g1 : mg "wrong_keys" = some (.ref f1))
    (F2 : Fun K "for_all_ponds" "for_all_ponds" sForAll f2 fd2) (G2 : FnOk P w K mg base CX0 2 f2 fd2 ["net", "table"] (spForAll C)) (b2 : Binds K fd2 ["net", "table"] []) (g2 : mg "for_all_ponds" = some (.ref f2)) :
    FnOk P w K mg base CX0 5 f fd ["self", "net", "poured", "counts"] (spSInit CS C) := by
  refine F.ok scSInit (fun vs H Q E h => ?_) (fun cdv A outer s H vs Q E hr h => ?_)
  · obtain ⟨st, dx, n, t, u, B, Pp, Qp, Qc, rfl, _⟩ := h
    rfl
  · obtain ⟨st, dx, n, t, u, B, Pp, Qp, Qc, rfl, hst, N, good, tp1, tc1, q⟩ := h
    have hr2 := hr.mono (show 2 ≤ 4 by decide)
    refine ⟨_, PSs.nox (pss_cons (ps_set (i := 4) scSInit.nd rfl (.inl rfl) (pe_call G1 hr (by rfl) g1 F1.kp b1 .nil pass0 (pa_cons (pv 1) (pa_cons (pv 2) pa_nil))))
      (pss_cons (ps_if (pt_truth (pv 4) (by intro _; rfl)) (pss_one ps_never) pss_nil)
      (pss_cons (ps_set (i := 4) scSInit.nd rfl (.inl rfl) (pe_call G1 hr (by rfl) g1 F1.kp b1 .nil pass0 (pa_cons (pv 1) (pa_cons (pv 3) pa_nil))))
      (pss_cons (ps_if (pt_truth (pv 4) (by intro _; rfl)) (pss_one ps_never) pss_nil)
      (pss_cons (ps_fld (pv 0) (pv 1) rfl)
      (pss_cons (ps_fld (pv 0) (pe_call G2 hr2 (by rfl) g2 F2.kp b2 .nil pass0 (pa_cons (pv 1) (pa_cons (pv 2) pa_nil))) rfl)
      (pss_one (ps_fld (pv 0) (pe_call G2 hr2 (by rfl) g2 F2.kp b2 .nil pass0 (pa_cons (pv 1) (pa_cons (pv 3) pa_nil))) rfl)))))))), ?_⟩
    refine ⟨.ref n, rfl, t, rfl, n, t, B, Pp, Qp, rfl, N, good, tp1, fun H1 e1 s1 _ he1 => ?_⟩
    refine ⟨.ref e1, rfl, false, .inl ⟨[], SqL.of he1, rfl⟩, iteF ?_⟩
    refine ⟨.ref n, rfl, u, rfl, n, u, B, Pp, Qc, rfl, N.same s1, good, tc1.same s1, fun H2 e2 s2 _ he2 => ?_⟩
    have s12 := s1.trans s2
    refine ⟨.ref e2, rfl, false, .inl ⟨[], SqL.of he2, rfl⟩, iteF ?_⟩
    have hs2 := s12 st _ hst
    refine ⟨.ref n, rfl, .ref st, rfl, st, CS, dx, [], rfl, hs2, T.cl, T.nN, by decide, ?_⟩
    -- behind the first store
    have kp : ∀ {H3 : Hp} {fs : List (Str × V)}, (∀ b o, H b = some o → b ≠ st → H3 b = some o) → ∀ b o, H b = some o → b ≠ st → (upd H3 st (.ins CS dx fs)) b = some o := fun {H3 fs} h b o e ne => by rw [upd_ne ne]; exact h b o e ne
    have k2 : ∀ b o, H b = some o → b ≠ st → H2 b = some o := fun b o e _ => s12 b o e
    have nst : ∀ {H3 : Hp}, (∀ b o, H b = some o → b ≠ st → H3 b = some o) → NetAt C H3 n B Pp := fun {H3} h => by
      obtain ⟨dx', d1, d2, a, b, c, e, f⟩ := N.at_
      have n1 : n ≠ st := fun e => by
        subst e
        rw [hst] at a
        have a' := Option.some.inj a
        injection a' with _ _ e3
        have e4 := nf_b d1 d2
        rw [← e3] at e4
        cases e4
      have n2 : d1 ≠ st := fun e => by subst e; rw [hst] at b; cases b
      have no : ∀ {y : Addr} {o : HO}, H y = some o → (∀ fs, o ≠ .ins CS dx fs) → H3 y = some o := fun {y o} e no => h _ _ e (fun z => by subst z; rw [hst] at e; exact no _ (Option.some.inj e).symm)
      have sd : ∀ {d : Addr} {g : Str → List (Str × Int)} {l : List Str}, SideAt H d g l → SideAt H3 d g l := fun {d g l} S => by
        obtain ⟨ls, e1, _⟩ := id S
        exact S.keep (fun x e => by rw [e1] at e; cases e; exact no e1 (fun v e => by cases e)) (fun b oq xs e => no e (fun v e => by cases e)) (fun b xs e => no e (fun v e => by cases e))
      exact ⟨dx', d1, d2, h _ _ a n1, h _ _ b n2, no c (fun v e => by cases e), sd e, sd f⟩
    have tst : ∀ {H3 : Hp} {v : V} {Qd : Br}, Tab H v B Qd → (∀ b o, H b = some o → b ≠ st → H3 b = some o) → Tab H3 v B Qd := fun {H3 v Qd} tb h => ⟨tb.at_.imp id fun ⟨a, e, z⟩ => ⟨a, e, h _ _ z (fun e => by subst e; rw [hst] at z; cases z)⟩, tb.nd, tb.ln, tb.ok⟩
    have k3 := kp (fs := putF "own_net" (.ref n) []) k2
    have hs3 : (upd H2 st (.ins CS dx (putF "own_net" (.ref n) []))) st = some (.ins CS dx (putF "own_net" (.ref n) [])) := upd_same
    obtain ⟨H3, hH3⟩ : ∃ H3, H3 = upd H2 st (.ins CS dx (putF "own_net" (.ref n) [])) := ⟨_, rfl⟩
    rw [← hH3] at k3 hs3 ⊢
    refine ⟨.ref n, rfl, t, rfl, n, t, B, Pp, Qp, rfl, nst k3, good, tst tp1 k3, fun H4 d1 s4 nd1 hd1 => ?_⟩
    have hs4 := s4 st _ hs3
    refine ⟨.ref st, rfl, st, CS, dx, _, rfl, hs4, T.cl, T.nP, (by show 1 < 1000; decide), ?_⟩
    have d1s : d1 ≠ st := Ne.symm (ne_of_none hs3 nd1)
    have k5 := kp (H3 := H4) (fs := putF "poured_by_pond" (.ref d1) (putF "own_net" (.ref n) [])) (fun b o e ne => s4 b o (k3 b o e ne))
    have hs5 : (upd H4 st (.ins CS dx (putF "poured_by_pond" (.ref d1) (putF "own_net" (.ref n) [])))) st = some (.ins CS dx (putF "poured_by_pond" (.ref d1) (putF "own_net" (.ref n) []))) := upd_same
    have hd5 : (upd H4 st (.ins CS dx (putF "poured_by_pond" (.ref d1) (putF "own_net" (.ref n) [])))) d1 = some (.dK (bk (fill B Qp))) := by rw [upd_ne d1s]; exact hd1
    obtain ⟨H5, hH5⟩ : ∃ H5, H5 = upd H4 st (.ins CS dx (putF "poured_by_pond" (.ref d1) (putF "own_net" (.ref n) []))) := ⟨_, rfl⟩
    rw [← hH5] at k5 hs5 hd5 ⊢
    refine ⟨.ref n, rfl, u, rfl, n, u, B, Pp, Qc, rfl, nst k5, good, tst tc1 k5, fun H6 d2 s6 nd2 hd2 => ?_⟩
    refine ⟨.ref st, rfl, st, CS, dx, _, rfl, s6 st _ hs5, T.cl, T.nC, (by show 2 < 1000; decide), ?_⟩
    have d2s : d2 ≠ st := Ne.symm (ne_of_none hs5 nd2)
    have k7 := kp (H3 := H6) (fs := sf n d1 d2) (fun b o e ne => s6 b o (k5 b o e ne))
    have new1 : ∀ {H3 : Hp} {d : Addr}, (∀ b o, H b = some o → b ≠ st → H3 b = some o) → d ≠ st → H3 d = none → H d = none := fun {H3 d} h ns e => by
      cases eh : H d with
      | none => rfl
      | some o => rw [h d o eh ns] at e; cases e
    refine q _ ⟨dx, n, d1, d2, upd_same, nst k7, by rw [upd_ne d1s]; exact s6 d1 _ hd5, by rw [upd_ne d2s]; exact hd2⟩ ⟨dx, d1, d2, upd_same, new1 k3 d1s nd1, new1 k5 d2s nd2⟩ k7
end
end Nl
end
section
set_option maxHeartbeats 1000000
namespace Nl
open PySem PySem.Spec PyProof.Rows L2 Nt
/-- every pond has its number -/
structure Full (B Qd : Br) : Prop where
  nm : nms Qd = nms B
theorem fill_full (B Qd : Br) : Full B (fill B Qd) := ⟨fill_nms B Qd⟩
theorem Full.get {B Qd : Br} (h : Full B Qd) {z : Str} (m : z ∈ nms B) : getB Qd z = some (val0 Qd z) := by
  rw [← h.nm] at m
  obtain ⟨b, e⟩ := getB_some m
  unfold val0
  rw [e]; rfl
theorem val0_fill {B Qd : Br} (nd : (nms B).Nodup) {z : Str} (m : z ∈ nms B) : val0 (fill B Qd) z = val0 Qd z := by
  have := getB_map (f := val0 Qd) nd m
  unfold fill
  unfold val0 at this ⊢
  rw [this]; rfl
def waterOf (B : Br) (Pp : Pi) (Qp Qc : Br) (z : Str) : Int := val0 Qp z + ((insOf Pp z).map fun p => p.2 * val0 Qc p.1).sum - val0 B z * val0 Qc z
theorem insOf_mem {Pp : Pi} {z : Str} {p : Str × Int} (h : p ∈ insOf Pp z) : ((p.1, z), p.2) ∈ Pp := by
  unfold insOf at h
  obtain ⟨q, hq, e⟩ := List.mem_map.mp h
  obtain ⟨h1, h2⟩ := List.mem_filter.mp hq
  have h3 : q.1.2 = z := of_decide_eq_true h2
  subst e
  subst h3
  exact h1
theorem insOf_len (Pp : Pi) (z : Str) : (insOf Pp z).length ≤ Pp.length := by
  unfold insOf
  rw [List.length_map]
  exact List.length_filter_le _ _
section
variable {P : Program} {w : World} {K : PySem.W.Frag} {mg : Str → Option Value} {base : Heap}
theorem scSNet : FnScope ["self"] ["self"] (defScope mStand_net) := ⟨rfl, rfl, rfl, by decide +kernel, rfl, by decide +kernel, by decide +kernel⟩
def spSNet (CS C : Addr) : Sp := fun vs H Q _ => ∃ (s : Addr) (B : Br) (Pp : Pi) (Qp Qc : Br), vs = [.ref s] ∧ StandAt CS C H s B Pp Qp Qc ∧ ∀ n, NetAt C H n B Pp → (∃ dx d1 d2, H s = some (.ins CS dx (sf n d1 d2))) → Q (.ref n) H
theorem ok_sNet {f CS C : Addr} {fd : FuncData} {k : Nat} (F : Fun K "net" "Stand.net" mStand_net f fd) (T : TxS K mg CS) : FnOk P w K mg base CX0 (k + 1) f fd ["self"] (spSNet CS C) := by
  refine F.ok scSNet (fun vs H Q E h => ?_) (fun cdv A outer s H vs Q E hr h => ?_)
  · obtain ⟨s, B, Pp, Qp, Qc, rfl, _⟩ := h
    rfl
  · obtain ⟨s, B, Pp, Qp, Qc, rfl, ⟨dx, n, d1, d2, hs, N, h1, h2⟩, q⟩ := h
    exact ⟨_, pss_one (ps_ret (pe_fld (pv 0) rfl)), .ref s, rfl, s, CS, dx, _, _, rfl, hs, T.cl, T.nN, sf_n n d1 d2, q n N ⟨dx, d1, d2, hs⟩⟩
theorem scPoured : FnScope ["self", "name"] ["self", "name"] (defScope mStand_poured) := ⟨rfl, rfl, rfl, by decide +kernel, rfl, by decide +kernel, by decide +kernel⟩
def spPoured (CS C : Addr) : Sp := fun vs H Q _ => ∃ (s : Addr) (B : Br) (Pp : Pi) (Qp Qc : Br) (z : Str), vs = [.ref s, .str z] ∧ StandAt CS C H s B Pp Qp Qc ∧ Full B Qp ∧ Nm z ∧ z ∈ nms B ∧ ∀ H', Same H H' → Q (.int (val0 Qp z)) H'
theorem ok_poured {f CS C f1 : Addr} {fd fd1 : FuncData} (F : Fun K "poured" "Stand.poured" mStand_poured f fd) (T : TxS K mg CS) (TN : TxN K mg C) (m1 : Meth K C "check_pond" f1) (G1 : FnOk P w K mg base CX0 4 f1 fd1 ["self", "thing"] (spChk C)) (b1 : Binds K fd1 ["self", "thing"] []) :
    FnOk P w K mg base CX0 5 f fd ["self", "name"] (spPoured CS C) := by
  refine F.ok scPoured (fun vs H Q E h => ?_) (fun cdv A outer s H vs Q E hr h => ?_)
  · obtain ⟨s, B, Pp, Qp, Qc, z, rfl, _⟩ := h
    rfl
  · obtain ⟨s, B, Pp, Qp, Qc, z, rfl, ⟨dx, n, d1, d2, hs, N, h1, h2⟩, fu, nz, mz, q⟩ := h
    refine ⟨_, pss_cons (ps_expr (pe_meth (pe_fld (pv 0) rfl) TN.cl m1 G1 hr b1 .nil pass0 (pa_cons (pv 1) pa_nil))) (pss_one (ps_ret (pe_dget (hu_of hr) (pe_fld (pv 0) rfl) (pv 1) (fun _ _ => rfl)))), ?_⟩
    obtain ⟨dxn, e1, e2, hn, _, _⟩ := N.at_
    refine ⟨.ref s, rfl, s, CS, dx, _, _, rfl, hs, T.cl, T.nN, sf_n n d1 d2, n, dxn, _, rfl, hn, no_attr, .str z, rfl, n, B, Pp, z, rfl, N, nz, mz, fun H1 s1 => ?_⟩
    exact ⟨.ref s, rfl, s, CS, dx, _, _, rfl, s1 s _ hs, T.cl, T.nP, sf_p n d1 d2, .str z, rfl, d1, .int (val0 Qp z), rfl, .inl ⟨_, Sum.inr z, .inl (s1 d1 _ h1), rfl, by rw [valV_bk, fu.get mz]; rfl⟩, q H1 s1⟩
theorem scCount : FnScope ["self", "name"] ["self", "name"] (defScope mStand_count) := ⟨rfl, rfl, rfl, by decide +kernel, rfl, by decide +kernel, by decide +kernel⟩
def spCount (CS C : Addr) : Sp := fun vs H Q _ => ∃ (s : Addr) (B : Br) (Pp : Pi) (Qp Qc : Br) (z : Str), vs = [.ref s, .str z] ∧ StandAt CS C H s B Pp Qp Qc ∧ Full B Qc ∧ Nm z ∧ z ∈ nms B ∧ ∀ H', Same H H' → Q (.int (val0 Qc z)) H'
theorem ok_count {f CS C f1 : Addr} {fd fd1 : FuncData} (F : Fun K "count" "Stand.count" mStand_count f fd) (T : TxS K mg CS) (TN : TxN K mg C) (m1 : Meth K C "check_pond" f1) (G1 : FnOk P w K mg base CX0 4 f1 fd1 ["self", "thing"] (spChk C)) (b1 : Binds K fd1 ["self", "thing"] []) :
    FnOk P w K mg base CX0 5 f fd ["self", "name"] (spCount CS C) := by
  refine F.ok scCount (fun vs H Q E h => ?_) (fun cdv A outer s H vs Q E hr h => ?_)
  · obtain ⟨s, B, Pp, Qp, Qc, z, rfl, _⟩ := h
    rfl
  · obtain ⟨s, B, Pp, Qp, Qc, z, rfl, ⟨dx, n, d1, d2, hs, N, h1, h2⟩, fu, nz, mz, q⟩ := h
    refine ⟨_, pss_cons (ps_expr (pe_meth (pe_fld (pv 0) rfl) TN.cl m1 G1 hr b1 .nil pass0 (pa_cons (pv 1) pa_nil))) (pss_one (ps_ret (pe_dget (hu_of hr) (pe_fld (pv 0) rfl) (pv 1) (fun _ _ => rfl)))), ?_⟩
    obtain ⟨dxn, e1, e2, hn, _, _⟩ := N.at_
    refine ⟨.ref s, rfl, s, CS, dx, _, _, rfl, hs, T.cl, T.nN, sf_n n d1 d2, n, dxn, _, rfl, hn, no_attr, .str z, rfl, n, B, Pp, z, rfl, N, nz, mz, fun H1 s1 => ?_⟩
    exact ⟨.ref s, rfl, s, CS, dx, _, _, rfl, s1 s _ hs, T.cl, T.nC, sf_c n d1 d2, .str z, rfl, d2, .int (val0 Qc z), rfl, .inl ⟨_, Sum.inr z, .inl (s1 d2 _ h2), rfl, by rw [valV_bk, fu.get mz]; rfl⟩, q H1 s1⟩
theorem scWater : FnScope ["self", "name", "came", "one", "width"] ["self", "name"] (defScope mStand_water) := ⟨rfl, rfl, rfl, by decide +kernel, rfl, by decide +kernel, by decide +kernel⟩
def spWater (CS C : Addr) : Sp := fun vs H Q _ => ∃ (s : Addr) (B : Br) (Pp : Pi) (Qp Qc : Br) (z : Str), vs = [.ref s, .str z] ∧ StandAt CS C H s B Pp Qp Qc ∧ Good B Pp ∧ Full B Qp ∧ Full B Qc ∧ z ∈ nms B ∧ ∀ H', Same H H' → Q (.int (waterOf B Pp Qp Qc z)) H'
theorem ok_water {f CS C f1 f2 : Addr} {fd fd1 fd2 : FuncData} (F : Fun K "water" "Stand.water" mStand_water f fd) (T : TxS K mg CS) (TN : TxN K mg C)
    (m1 : Meth K C "ins" f1) (G1 : FnOk P w K mg base CX0 5 f1 fd1 ["self", "name"] (spIns C)) (b1 : Binds K fd1 ["self", "name"] [])
    (m2 : Meth K C "brim" f2) (G2 : FnOk P w K mg base CX0 5 f2 fd2 ["self", "name"] (spBrim C)) (b2 : Binds K fd2 ["self", "name"] []) (ms : mg "sum" = none) :
    FnOk P w K mg base CX0 6 f fd ["self", "name"] (spWater CS C) := by
  refine F.ok scWater (fun vs H Q E h => ?_) (fun cdv A outer s H vs Q E hr h => ?_)
  · obtain ⟨s, B, Pp, Qp, Qc, z, rfl, _⟩ := h
    rfl
  · obtain ⟨s, B, Pp, Qp, Qc, z, rfl, ⟨dx, n, d1, d2, hs, N, h1, h2⟩, good, fp, fc, mz, q⟩ := h
    have wf := good.wf
    have hu := hu_of hr
    refine ⟨_, pss_cons (ps_set (i := 2) scWater.nd rfl (.inl rfl) (pe_callB (cr_sum rfl) (by rfl) ms (by decide +kernel) (pa_cons (pe_lc (own := [("one", 3), ("width", 4)])
        (g := gTup K 2 (gCons (gName 3) (gCons (gName 4) gNil))) (tt := tYes) (te := tOp (rI CMul fun i j => .int (i * j)) (tVar 4) (tDGet (tFld K (tVar 0) "count_by_pond") (tVar 3))) rfl scWater.nd
        (pi_list (pe_meth (pe_fld (pv 0) rfl) TN.cl m1 G1 hr b1 .nil pass0 (pa_cons (pv 1) pa_nil)))
        (blkOk_by (N := ["self", "name", "came", "one", "width"]) (sc := defScope mStand_water) (by decide +kernel))
        (fun _ _ _ _ _ => pg_tup rfl (pgs_cons (pg_name (i := 3) scWater.nd rfl (Or.inl rfl)) (pgs_cons (pg_name (i := 4) scWater.nd rfl (Or.inl rfl)) pgs_nil)))
        (fun _ _ _ _ _ => pts_nil) (fun _ _ _ _ _ => pe_op op_mul (pv 4) (pe_dget hu (pe_fld (pv 0) rfl) (pv 3) (fun _ _ => rfl)))) pa_nil)))
      (pss_one (ps_ret (pe_op op_sub (pe_op op_add (pe_dget hu (pe_fld (pv 0) rfl) (pv 1) (fun _ _ => rfl)) (pv 2)) (pe_op op_mul (pe_meth (pe_fld (pv 0) rfl) TN.cl m2 G2 hr b2 .nil pass0 (pa_cons (pv 1) pa_nil)) (pe_dget hu (pe_fld (pv 0) rfl) (pv 1) (fun _ _ => rfl)))))), ?_⟩
    obtain ⟨dxn, e1, e2, hn, _, _⟩ := N.at_
    obtain ⟨bz, gz⟩ := getB_some mz
    have rz := wf.rb _ (getB_mem gz)
    have nz : Nm z := rz.1
    refine ⟨.ref s, rfl, s, CS, dx, _, _, rfl, hs, T.cl, T.nN, sf_n n d1 d2, n, dxn, _, rfl, hn, no_attr, .str z, rfl, n, B, Pp, z, rfl, N, good, nz, mz, fun H1 p as s1 np hp pA => ?_⟩
    refine ⟨p, rfl, ⟨_, SqL.of hp⟩, fun D nD => ?_⟩
    refine lc_it (n := (as.map V.ref).length) (walk_list (xs := as.map V.ref)) (fun i H2 => H2 D = some (.lst ((((insOf Pp z).take i).map fun p => p.2 * val0 Qc p.1).map V.int)) ∧ Same H1 H2) ⟨upd_same, same_new nD⟩ (fun i H2 _ h => SqL.of (h.2 p _ hp)) ?_ ?_
    · rintro i x H2 H2' hi ⟨hD, sm⟩ ⟨rfl, hx⟩
      rw [List.length_map, pA.1] at hi
      have hy : (insOf Pp z)[i]? = some (insOf Pp z)[i] := List.getElem?_eq_getElem hi
      obtain ⟨t, ht, hT⟩ := pA.2 i _ hy
      obtain ⟨y, hyd⟩ : ∃ y, y = (insOf Pp z)[i] := ⟨_, rfl⟩
      rw [← hyd] at hy hT
      have hx' : V.ref t = x := by
        rw [List.getElem?_map, ht] at hx
        exact Option.some.inj hx
      subst hx'
      have my := insOf_mem (List.mem_of_getElem? hy)
      have ry := wf.rp _ my
      refine ⟨t, [.str y.1, .int y.2], rfl, SqT.of (sm t _ hT), rfl, .str y.1, [.int y.2], rfl, .int y.2, [], rfl, rfl, rfl, ?_⟩
      show (tOp (rI CMul fun i j => .int (i * j)) (tVar 4) (tDGet (tFld K (tVar 0) "count_by_pond") (tVar 3))) _ H2' _
      refine ⟨.int y.2, rfl, .ref s, rfl, s, CS, dx, _, _, rfl, sm s _ (s1 s _ hs), T.cl, T.nC, sf_c n d1 d2, .str y.1, rfl, d2, .int (val0 Qc y.1), rfl, .inl ⟨_, Sum.inr y.1, .inl (sm d2 _ (s1 d2 _ h2)), rfl, by rw [valV_bk, fc.get ry.1]; rfl⟩, y.2, _, rfl, rfl, ?_, _, hD, ?_, ?_, ?_⟩
      · have := ry.2.2.2
        exact .inl ⟨by have := this.1; omega, by have := this.2; omega⟩
      · rw [List.length_map, List.length_map, List.length_take]
        have := insOf_len Pp z
        have := wf.lp
        exact small1000 (by omega)
      · rw [upd_same, List.take_add_one, hy, List.map_append, List.map_append]; rfl
      · exact fun c o ec => by
          have nb : c ≠ D := ne_of_none ec nD
          rw [upd_ne nb]; exact sm c o ec
    · rintro H2 ⟨hD, sm⟩
      rw [List.length_map, pA.1, List.take_length] at hD
      refine ⟨D, _, rfl, SqL.of hD, ?_⟩
      have sA := s1.trans sm
      refine ⟨.ref s, rfl, s, CS, dx, _, _, rfl, sA s _ hs, T.cl, T.nP, sf_p n d1 d2, .str z, rfl, d1, .int (val0 Qp z), rfl, .inl ⟨_, Sum.inr z, .inl (sA d1 _ h1), rfl, by rw [valV_bk, fp.get mz]; rfl⟩, _, rfl, _, _, rfl, rfl, ?_⟩
      refine ⟨.ref s, rfl, s, CS, dx, _, _, rfl, sA s _ hs, T.cl, T.nN, sf_n n d1 d2, n, dxn, _, rfl, sA n _ hn, no_attr, .str z, rfl, n, B, Pp, z, bz, rfl, N.same sA, nz, gz, fun H3 s3 => ?_⟩
      have sB := sA.trans s3
      refine ⟨.ref s, rfl, s, CS, dx, _, _, rfl, sB s _ hs, T.cl, T.nC, sf_c n d1 d2, .str z, rfl, d2, .int (val0 Qc z), rfl, .inl ⟨_, Sum.inr z, .inl (sB d2 _ h2), rfl, by rw [valV_bk, fc.get mz]; rfl⟩, _, _, rfl, rfl, .inl ⟨by have := rz.2; omega, by have := rz.2; omega⟩, _, _, rfl, rfl, ?_⟩
      have := q H3 sB
      unfold waterOf at this
      rw [show val0 B z = bz by unfold val0; rw [gz]; rfl] at this
      exact this
theorem scCounts : FnScope ["self", "name"] ["self"] (defScope mStand_counts) := ⟨rfl, rfl, rfl, by decide +kernel, rfl, by decide +kernel, by decide +kernel⟩
def spCounts (CS C : Addr) : Sp := fun vs H Q _ => ∃ (s : Addr) (B : Br) (Pp : Pi) (Qp Qc : Br), vs = [.ref s] ∧ StandAt CS C H s B Pp Qp Qc ∧ (nms Qc).Nodup ∧ Qc.length ≤ 12 ∧ ∀ H' p, Same H H' → H p = none → H' p = some (.dK (bk Qc)) → Q (.ref p) H'
theorem ok_counts {f CS C : Addr} {fd : FuncData} {k : Nat} (F : Fun K "counts" "Stand.counts" mStand_counts f fd) (T : TxS K mg CS) : FnOk P w K mg base CX0 (k + 1) f fd ["self"] (spCounts CS C) := by
  refine F.ok scCounts (fun vs H Q E h => ?_) (fun cdv A outer s H vs Q E hr h => ?_)
  · obtain ⟨s, B, Pp, Qp, Qc, rfl, _⟩ := h
    rfl
  · obtain ⟨s, B, Pp, Qp, Qc, rfl, ⟨dx, n, d1, d2, hs, N, h1, h2⟩, nd, ln, q⟩ := h
    refine ⟨_, pss_one (ps_ret (pe_lock (Rl.pe_dcP (T := .dK []) (own := [("name", 1)]) (g := gName 1) (tt := tYes) (tk := tVar 1) (tv := tDGet (tFld K (tVar 0) "count_by_pond") (tVar 1)) (.inr rfl) hr rfl scCounts.nd (pi_keys (pe_fld (pv 0) rfl))
      (blkOk_by (N := ["self", "name"]) (sc := defScope mStand_counts) (by decide +kernel)) (fun _ _ _ _ _ => pg_name (i := 1) scCounts.nd rfl (Or.inl rfl)) (fun _ _ _ _ _ => pts_nil)
      (fun _ _ _ _ _ => pv 1) (fun _ _ _ _ _ => pe_dget (hu_of hr) (pe_fld (pv 0) rfl) (pv 1) (fun _ _ => rfl))))), ?_⟩
    have nd1 : s ≠ d2 := fun e => by subst e; rw [hs] at h2; cases h2
    refine ⟨d2, _, h2, trivial, fun od => ?_⟩
    refine ⟨.ref s, rfl, s, CS, dx, _, _, rfl, (by rw [upd_ne nd1]; exact hs), T.cl, T.nC, sf_c n d1 d2, d2, od, rfl, .inl ⟨_, upd_same, fun D nD => ?_⟩⟩
    have hDd : D ≠ d2 := fun e => by subst e; rw [upd_same] at nD; cases nD
    have nDH : H D = none := by rw [upd_ne hDd] at nD; exact nD
    refine Rl.gc_it (n := (bk Qc).length) (b0 := fun _ => .dK []) walk_keys (fun i H2 => H2 D = some (.dK (bk (Qc.take i))) ∧ Same (upd H d2 (.frz od (.dK (bk Qc)))) H2) ⟨upd_same, same_new nD⟩ (fun i H2 _ h => h.2 d2 _ upd_same) ?_ ?_
    · rintro i x H2 H2' hi ⟨hD, sm⟩ ⟨rfl, kk, v, hkv, rfl⟩
      obtain ⟨p, hp, rfl, rfl⟩ := bk_at hkv
      have hm := List.mem_of_getElem? hp
      refine ⟨rfl, .str p.1, rfl, .ref s, rfl, s, CS, dx, _, _, rfl, sm s _ (by rw [upd_ne nd1]; exact hs), T.cl, T.nC, sf_c n d1 d2, .str p.1, rfl, d2, .int p.2, rfl, .inl ⟨_, Sum.inr p.1, .inr ⟨od, sm d2 _ upd_same⟩, rfl, ?_⟩, _, DPut.k (k := Sum.inr p.1) hD ?_, ?_, ?_⟩
      · rw [valV_bk, getB_of_mem nd hm]; rfl
      · rw [bk_len, List.length_take]; exact small1000 (by omega)
      · have fr : p.1 ∉ nms (Qc.take i) := by
          have h3 : (nms Qc)[i]? = some p.1 := by unfold nms; rw [List.getElem?_map, hp]; rfl
          have h4 := take_nd nd h3
          unfold nms at h4 ⊢
          rw [← List.map_take] at h4; exact h4
        rw [upd_same, putK_bk fr, List.take_add_one, hp]; rfl
      · exact fun c o ec => by
          have nb : c ≠ D := ne_of_none ec nD
          rw [upd_ne nb]; exact sm c o ec
    · rintro H2 ⟨hD, sm⟩
      obtain ⟨l1, l2⟩ := same_lock h2 sm
      rw [bk_len, List.take_length] at hD
      exact ⟨l1, q _ D l2 nDH (by rw [upd_ne hDd]; exact hD)⟩
end
end Nl
end
section
set_option maxHeartbeats 1000000
namespace Nl
open PySem PySem.Spec PyProof.Rows L2 Nt
section
variable {P : Program} {w : World} {K : PySem.W.Frag} {mg : Str → Option Value} {base : Heap}
theorem scPours : FnScope ["self", "name"] ["self"] (defScope mStand_pours) := ⟨rfl, rfl, rfl, by decide +kernel, rfl, by decide +kernel, by decide +kernel⟩
def spPours (CS C : Addr) : Sp := fun vs H Q _ => ∃ (s : Addr) (B : Br) (Pp : Pi) (Qp Qc : Br), vs = [.ref s] ∧ StandAt CS C H s B Pp Qp Qc ∧ (nms Qp).Nodup ∧ Qp.length ≤ 12 ∧ ∀ H' p, Same H H' → H p = none → H' p = some (.dK (bk Qp)) → Q (.ref p) H'
theorem ok_pours {f CS C : Addr} {fd : FuncData} {k : Nat} (F : Fun K "pours" "Stand.pours" mStand_pours f fd) (T : TxS K mg CS) : FnOk P w K mg base CX0 (k + 1) f fd ["self"] (spPours CS C) := by
  refine F.ok scPours (fun vs H Q E h => ?_) (fun cdv A outer s H vs Q E hr h => ?_)
  · obtain ⟨s, B, Pp, Qp, Qc, rfl, _⟩ := h
    rfl
  · obtain ⟨s, B, Pp, Qp, Qc, rfl, ⟨dx, n, d1, d2, hs, N, h1, h2⟩, nd, ln, q⟩ := h
    refine ⟨_, pss_one (ps_ret (pe_lock (Rl.pe_dcP (T := .dK []) (own := [("name", 1)]) (g := gName 1) (tt := tYes) (tk := tVar 1) (tv := tDGet (tFld K (tVar 0) "poured_by_pond") (tVar 1)) (.inr rfl) hr rfl scPours.nd (pi_keys (pe_fld (pv 0) rfl))
      (blkOk_by (N := ["self", "name"]) (sc := defScope mStand_pours) (by decide +kernel)) (fun _ _ _ _ _ => pg_name (i := 1) scPours.nd rfl (Or.inl rfl)) (fun _ _ _ _ _ => pts_nil)
      (fun _ _ _ _ _ => pv 1) (fun _ _ _ _ _ => pe_dget (hu_of hr) (pe_fld (pv 0) rfl) (pv 1) (fun _ _ => rfl))))), ?_⟩
    have nd1 : s ≠ d1 := fun e => by subst e; rw [hs] at h1; cases h1
    refine ⟨d1, _, h1, trivial, fun od => ?_⟩
    refine ⟨.ref s, rfl, s, CS, dx, _, _, rfl, (by rw [upd_ne nd1]; exact hs), T.cl, T.nP, sf_p n d1 d2, d1, od, rfl, .inl ⟨_, upd_same, fun D nD => ?_⟩⟩
    have hDd : D ≠ d1 := fun e => by subst e; rw [upd_same] at nD; cases nD
    have nDH : H D = none := by rw [upd_ne hDd] at nD; exact nD
    refine Rl.gc_it (n := (bk Qp).length) (b0 := fun _ => .dK []) walk_keys (fun i H2 => H2 D = some (.dK (bk (Qp.take i))) ∧ Same (upd H d1 (.frz od (.dK (bk Qp)))) H2) ⟨upd_same, same_new nD⟩ (fun i H2 _ h => h.2 d1 _ upd_same) ?_ ?_
    · rintro i x H2 H2' hi ⟨hD, sm⟩ ⟨rfl, kk, v, hkv, rfl⟩
      obtain ⟨p, hp, rfl, rfl⟩ := bk_at hkv
      have hm := List.mem_of_getElem? hp
      refine ⟨rfl, .str p.1, rfl, .ref s, rfl, s, CS, dx, _, _, rfl, sm s _ (by rw [upd_ne nd1]; exact hs), T.cl, T.nP, sf_p n d1 d2, .str p.1, rfl, d1, .int p.2, rfl, .inl ⟨_, Sum.inr p.1, .inr ⟨od, sm d1 _ upd_same⟩, rfl, ?_⟩, _, DPut.k (k := Sum.inr p.1) hD ?_, ?_, ?_⟩
      · rw [valV_bk, getB_of_mem nd hm]; rfl
      · rw [bk_len, List.length_take]; exact small1000 (by omega)
      · have fr : p.1 ∉ nms (Qp.take i) := by
          have h3 : (nms Qp)[i]? = some p.1 := by unfold nms; rw [List.getElem?_map, hp]; rfl
          have h4 := take_nd nd h3
          unfold nms at h4 ⊢
          rw [← List.map_take] at h4; exact h4
        rw [upd_same, putK_bk fr, List.take_add_one, hp]; rfl
      · exact fun c o ec => by
          have nb : c ≠ D := ne_of_none ec nD
          rw [upd_ne nb]; exact sm c o ec
    · rintro H2 ⟨hD, sm⟩
      obtain ⟨l1, l2⟩ := same_lock h1 sm
      rw [bk_len, List.take_length] at hD
      exact ⟨l1, q _ D l2 nDH (by rw [upd_ne hDd]; exact hD)⟩
end
end Nl
end
section
set_option maxHeartbeats 1000000
namespace Nl
open PySem PySem.Spec PyProof.Rows L2 Nt
theorem scDraw : FnScope ["_law_pot_here", "_law_many", "_law_digit"] ["_law_pot_here", "_law_many"] (defScope sDraw) :=
  ⟨rfl, rfl, rfl, by decide +kernel, rfl, by decide +kernel, by decide +kernel⟩
theorem scPot : FnScope ["_law_script", "_law_k", "_law_cell"] ["_law_script", "_law_k"] (defScope sPot) :=
  ⟨rfl, rfl, rfl, by decide +kernel, rfl, by decide +kernel, by decide +kernel⟩
/-! ### the pot -/
def PotOk (a b : Int) : Prop := 0 ≤ a ∧ 0 ≤ b ∧ b < 4294967296
def PotAt (H : Hp) (p : Addr) : Prop := ∃ a b, H p = some (.lst [.int a, .int b]) ∧ PotOk a b
theorem Kp.refl (p : Addr) (H : Hp) : Kp p H H := fun _ _ _ e => e
theorem no_pylong {i j : Int} (h0 : 0 < j) (h1 : j < 2 ^ 200) : CDivP i j := by
  refine ⟨h0, ?_⟩
  have hn : j.natAbs < 2 ^ 200 := by omega
  have hl : j.natAbs.log2 < 200 := by
    rw [Nat.log2_lt (by omega)]; exact hn
  have hd : j.natAbs.log2 / 30 ≤ 6 := by omega
  unfold Builtin.divisionGoesByPylong
  have h3 : ∀ k : Nat, 300 ≤ k → ¬ (k < j.natAbs.log2 / 30 + 1) := fun k hk => by omega
  simp only [Bool.and_eq_true, decide_eq_true_eq, Bool.and_eq_false_iff, decide_eq_false_iff_not]
  split <;> first | (left; omega) | omega | simp
theorem PotAt.new {H : Hp} {p q : Addr} {o : HO} (h : PotAt H p) (n : H q = none) : PotAt (upd H q o) p := by
  obtain ⟨a, b, hp, hab⟩ := h
  exact ⟨a, b, by rw [upd_ne (ne_of_none hp n)]; exact hp, hab⟩
theorem PotAt.ne {H : Hp} {p q : Addr} (h : PotAt H p) (n : H q = none) : q ≠ p := by
  obtain ⟨a, b, hp, hab⟩ := h
  exact Ne.symm (ne_of_none hp n)
theorem PotAt.put {H : Hp} {p q : Addr} {o : HO} (h : PotAt H p) (n : q ≠ p) : PotAt (upd H q o) p := by
  obtain ⟨a, b, hp, hab⟩ := h
  exact ⟨a, b, by rw [upd_ne (Ne.symm n)]; exact hp, hab⟩
section
variable {P : Program} {w : World} {K : PySem.W.Frag} {mg : Str → Option Value} {base : Heap}
/-! ### draw -/
def spDraw : Sp := fun vs H Q _ => ∃ (p : Addr) (m : Int), vs = [.ref p, .int m] ∧ PotAt H p ∧ 0 < m ∧ m < 2 ^ 200 ∧
  ∀ d H', Kp p H H' → PotAt H' p → 0 ≤ d → d < m → Q (.int d) H'
theorem ok_draw {f : Addr} {fd : FuncData} {k : Nat} (F : Fun K "_law_draw" "_law_draw" sDraw f fd) (md : mg "divmod" = none) :
    FnOk P w K mg base CX0 (k + 1) f fd ["_law_pot_here", "_law_many"] spDraw := by
  refine F.ok scDraw (fun vs H Q E h => ?_) (fun cdv A outer s H vs Q E hr h => ?_)
  · obtain ⟨p, m, rfl, _⟩ := h
    rfl
  · obtain ⟨p, m, rfl, ⟨a, b, hp, ha, hb, hb2⟩, m0, m1, q⟩ := h
    refine ⟨_, pss_cons (ps_if (pt_cmpR op_gt (pe_ix ix_list (pv 0) pe_int (fun _ _ => rfl)) pe_int (nomark _))
        (pss_cons (ps_asg (pe_callB call_divmodW (by rfl) md (by decide +kernel) (pa_cons (pe_ix ix_list (pv 0) pe_int (fun _ _ => rfl)) (pa_cons (pv 1) pa_nil)))
            (pg_tup rfl (pgs_cons (pg_sub (pv 0) pe_int set_list) (pgs_cons (pg_name (i := 2) scDraw.nd rfl (.inl rfl)) pgs_nil))))
          (pss_one (ps_ret (pv 2)))) pss_nil)
      (pss_cons (ps_asg (pe_op op_mod (pe_op op_add (pe_op op_mul (pe_ix ix_list (pv 0) pe_int (fun _ _ => rfl)) pe_int) pe_int) pe_int) (pg_sub (pv 0) pe_int set_list))
      (pss_one (ps_ret (pe_op op_mod (pe_op op_fdiv (pe_op op_mod (pe_op op_mul (pe_ix ix_list (pv 0) pe_int (fun _ _ => rfl)) (pe_ix ix_list (pv 0) pe_int (fun _ _ => rfl))) pe_int) pe_int) (pv 1))))), ?_⟩
    have i0 : atI [V.int a, V.int b] 0 = some (.int a) := atI_nat (j := 0) rfl
    have i1 : atI [V.int a, V.int b] 1 = some (.int b) := atI_nat (j := 1) rfl
    refine ⟨.ref p, rfl, p, _, 0, _, rfl, rfl, SqL.of hp, i0, _, _, rfl, rfl, _, rfl, ite2 (fun e => ?_) (fun e => ?_)⟩
    · -- pot[0], digit = divmod(pot[0], many)
      refine ⟨.ref p, rfl, p, _, 0, _, rfl, rfl, SqL.of hp, i0, .int m, rfl, a, m, rfl, no_pylong m0 m1, fun T nT => ?_⟩
      have nTp : p ≠ T := ne_of_none hp nT
      have hp1 : (upd H T (.tup [.int (a / m), .int (a % m)])) p = some (.lst [.int a, .int b]) := by rw [upd_ne nTp]; exact hp
      refine ⟨T, [.int (a / m), .int (a % m)], rfl, .inl (.inl upd_same), rfl, .int (a / m), [.int (a % m)], rfl, ?_⟩
      refine ⟨.ref p, rfl, p, _, 0, 0, rfl, rfl, hp1, rfl, ?_⟩
      refine ⟨.int (a % m), [], rfl, rfl, .int (a % m), rfl, ?_⟩
      refine q (a % m) _ ((Kp.new nT).trans Kp.here) ⟨a / m, b, upd_same, Int.ediv_nonneg ha (by omega), hb, hb2⟩ (Int.emod_nonneg _ (by omega)) (Int.emod_lt_of_pos _ m0)
    · refine ⟨.ref p, rfl, p, _, 1, _, rfl, rfl, SqL.of hp, i1, b, 48271, rfl, rfl, .inr ⟨by decide, by decide⟩, _, _, rfl, rfl, _, _, rfl, rfl, (by show (0 : Int) < 2147483647; decide), ?_⟩
      refine ⟨.ref p, rfl, p, _, 1, 1, rfl, rfl, hp, rfl, ?_⟩
      obtain ⟨c, hc⟩ : ∃ c, c = (b * 48271 + 20011) % 2147483647 := ⟨_, rfl⟩
      have c0 : 0 ≤ c := by rw [hc]; exact Int.emod_nonneg _ (by decide)
      have c1 : c < 2147483647 := by rw [hc]; exact Int.emod_lt_of_pos _ (by decide)
      have j1 : atI [V.int a, V.int c] 1 = some (.int c) := atI_nat (j := 1) rfl
      have hp2 : (upd H p (.lst ([V.int a, V.int b].set 1 (.int ((b * 48271 + 20011) % 2147483647))))) p = some (.lst [.int a, .int c]) := by
        rw [upd_same, ← hc]; rfl
      refine ⟨.ref p, rfl, p, _, 1, _, rfl, rfl, SqL.of hp2, j1, .ref p, rfl, p, _, 1, _, rfl, rfl, SqL.of hp2, j1, c, c, rfl, rfl, .inl ⟨by omega, by omega⟩, ?_⟩
      refine ⟨_, _, rfl, rfl, (by show (0 : Int) < 2147483629; decide), _, _, rfl, rfl, ⟨by decide, by decide⟩, .int m, rfl, _, m, rfl, rfl, m0, ?_⟩
      exact q _ _ Kp.here ⟨a, c, hp2, ha, c0, by omega⟩ (Int.emod_nonneg _ (by omega)) (Int.emod_lt_of_pos _ m0)
/-! ### pot -/
def spPot (K : PySem.W.Frag) : Sp := fun vs H Q _ => ∃ (a : Addr) (ns : List Int) (k : Int), vs = [.ref a, .int k] ∧ SqL K H a (ns.map V.int) ∧ 0 ≤ k ∧ k < 100 ∧
  ∀ H' p, Same H H' → H p = none → PotAt H' p → Q (.ref p) H'
theorem ok_pot {f : Addr} {fd : FuncData} {k : Nat} (F : Fun K "_law_pot" "_law_pot" sPot f fd) (ml : mg "len" = none) (mm : mg "max" = none) (ma : mg "abs" = none) :
    FnOk P w K mg base CX0 (k + 1) f fd ["_law_script", "_law_k"] (spPot K) := by
  refine F.ok scPot (fun vs H Q E h => ?_) (fun cdv A outer s H vs Q E hr h => ?_)
  · obtain ⟨a, ns, k, rfl, _⟩ := h
    rfl
  · obtain ⟨a, ns, k, rfl, hS, k0, k1, q⟩ := h
    refine ⟨_, pss_cons (ps_set (i := 2) scPot.nd rfl (.inl rfl) (pe_ifExp (pt_cmpR op_lt (pv 1) (pe_callB call_len_seq (by rfl) ml PySem.boot_len (pa_cons (pv 0) pa_nil)) (nomark _)) (pe_ix ix_list (pv 0) (pv 1) (fun _ _ => rfl)) pe_int))
      (pss_one (ps_ret (pe_lst (pa_cons (pe_callB (call_max2 rfl) (by rfl) mm (by decide +kernel) (pa_cons pe_int (pa_cons (pe_op op_sub (pe_callB call_abs (by rfl) ma (by decide +kernel) (pa_cons (pv 2) pa_nil)) (pe_op op_pow pe_int pe_int)) pa_nil)))
        (pa_cons (pe_op op_add (pe_op op_add (pe_op op_mod (pe_callB call_abs (by rfl) ma (by decide +kernel) (pa_cons (pv 2) pa_nil)) pe_int) (pe_op op_mul pe_int (pv 1))) pe_int) pa_nil))))), ?_⟩
    have done : ∀ n : Int, ∀ σ, σ = [some (V.ref a), some (.int k), some (.int n)] → True := fun _ _ _ => trivial
    refine ⟨.int k, rfl, .ref a, rfl, a, _, rfl, .inl hS, k, _, rfl, rfl, _, rfl, ite2 (fun e => ?_) (fun e => ?_)⟩
    · have e' : k < ((ns.map V.int).length : Int) := of_decide_eq_true e
      rw [List.length_map] at e'
      obtain ⟨j, rfl⟩ : ∃ j : Nat, k = (j : Int) := ⟨k.toNat, by omega⟩
      have hj : j < ns.length := by omega
      have g : (ns.map V.int)[j]? = some (.int ns[j]) := by
        rw [List.getElem?_map, List.getElem?_eq_getElem hj]; rfl
      refine ⟨.ref a, rfl, .int j, rfl, a, _, j, _, rfl, rfl, hS, atI_nat g, ?_⟩
      refine ⟨.int ns[j], rfl, _, rfl, 10, 18, rfl, rfl, ⟨by decide, by decide, by decide⟩, _, _, rfl, rfl, _, _, rfl, ?_⟩
      refine ⟨.int ns[j], rfl, _, rfl, _, _, rfl, rfl, (by show (0 : Int) < 2147483587; decide), .int j, rfl, 131, _, rfl, rfl, .inl ⟨by decide, by decide⟩, _, _, rfl, rfl, _, _, rfl, rfl, ?_⟩
      refine ⟨by show 2 ≤ sizeLine; decide, fun p np => ?_⟩
      refine q _ p (same_new np) np ⟨_, _, upd_same, ?_, ?_, ?_⟩
      · show (0 : Int) ≤ if _ > (0 : Int) then _ else 0
        split <;> omega
      · have := Int.emod_nonneg (if ns[j] < 0 then -ns[j] else ns[j]) (show (2147483587 : Int) ≠ 0 by decide)
        omega
      · have := Int.emod_lt_of_pos (if ns[j] < 0 then -ns[j] else ns[j]) (show (0 : Int) < 2147483587 by decide)
        omega
    · refine ⟨.int 0, rfl, _, rfl, 10, 18, rfl, rfl, ⟨by decide, by decide, by decide⟩, _, _, rfl, rfl, _, _, rfl, ?_⟩
      refine ⟨.int 0, rfl, _, rfl, _, _, rfl, rfl, (by show (0 : Int) < 2147483587; decide), .int k, rfl, 131, _, rfl, rfl, .inl ⟨by decide, by decide⟩, _, _, rfl, rfl, _, _, rfl, rfl, ?_⟩
      refine ⟨by show 2 ≤ sizeLine; decide, fun p np => ?_⟩
      refine q _ p (same_new np) np ⟨_, _, upd_same, ?_, ?_, ?_⟩
      · decide
      · show (0 : Int) ≤ 0 + 131 * k + 7
        omega
      · show (0 : Int) + 131 * k + 7 < _
        omega
end
end Nl
end
section
set_option maxHeartbeats 2000000
namespace Nl
open PySem PySem.Spec PyProof.Rows L2 Nt
theorem Sm.strOk {n : Nat} {z : Str} (h : Sm n z) : PyData.strOk z = true := by
  unfold PyData.strOk
  rw [Array.all_eq_true']
  intro c hc
  have := h.2 c (Array.mem_toList_iff.mpr hc)
  exact decide_eq_true (by omega)
theorem dp_strs {K : PySem.W.Frag} {H : Hp} : ∀ l : List Str, DpAll K H (l.map V.str) (l.map PyData.str)
  | [] => .nil
  | z :: l => .cons (.str z) (dp_strs l)
theorem lay_strs : ∀ {l : List Str}, (∀ z ∈ l, Sm 25 z) → PyData.canLayAll0 (l.map PyData.str) = true ∧ PyData.depthAll (l.map PyData.str) = 0
  | [], _ => ⟨rfl, rfl⟩
  | z :: l, h => by
    obtain ⟨h1, h2⟩ := lay_strs (l := l) fun y hy => h y (List.mem_cons_of_mem _ hy)
    constructor
    · show (PyData.canLay0 (.str z) && PyData.canLayAll0 (l.map PyData.str)) = true
      rw [h1, show PyData.canLay0 (.str z) = PyData.strOk z from by simp [PyData.canLay0], (h z List.mem_cons_self).strOk]; rfl
    · show max (PyData.depth (.str z)) (PyData.depthAll (l.map PyData.str)) = 0
      rw [h2]; simp [PyData.depth]
theorem shaped_strs {l : List Str} (h : ∀ z ∈ l, Sm 25 z) : SeqAt.shaped (.list (l.map PyData.str)) = true := by
  obtain ⟨h1, h2⟩ := lay_strs h
  unfold SeqAt.shaped
  rw [show PyData.canLay0 (.list (l.map PyData.str)) = PyData.canLayAll0 (l.map PyData.str) by simp [PyData.canLay0], h1, show PyData.depth (.list (l.map PyData.str)) = PyData.depthAll (l.map PyData.str) + 1 by simp [PyData.depth], h2]
  decide
theorem ne_nil {K : PySem.W.Frag} {H : Hp} {a e : Addr} {l : List Str} {Q : V → Hp → Prop} (ha : H a = some (.lst (l.map V.str))) (he : H e = some (.lst [])) (h : ∀ z ∈ l, Sm 25 z) (q : Q (.bl (!l.isEmpty)) H) : rNeD K (.ref a) (.ref e) H Q := by
  refine ⟨_, _, .lst (SqL.of ha) (dp_strs l), .lst (SqL.of he) .nil, shaped_strs h, by simp [SeqAt.shaped, PyData.canLay0, PyData.canLayAll0, PyData.depth, PyData.depthAll], ?_⟩
  have : PyData.eqv (.list (l.map PyData.str)) (.list []) = l.isEmpty := by
    cases l <;> simp [PyData.eqv, PyData.eqvAll]
  rw [this]
  exact q
theorem six {d : Int} {n : Nat} (h0 : 0 ≤ d) (h1 : d < n) : seqIndex? d n = some d.toNat := by
  unfold seqIndex?
  have hn : ¬ d < 0 := by omega
  simp [hn, h0, h1]
theorem erase_perm {α : Type} {l : List α} {k : Nat} {y : α} (h : l[k]? = some y) : (y :: l.eraseIdx k).Perm l := by
  induction l generalizing k with
  | nil => simp at h
  | cons x l ih =>
    cases k with
    | zero =>
      have : x = y := by simpa using h
      subst this
      exact .refl _
    | succ k =>
      have h' : l[k]? = some y := by simpa using h
      exact (List.Perm.swap x y _).trans ((ih h').cons x)
theorem erase_map {α β : Type} (f : α → β) : ∀ (l : List α) (k : Nat), (l.map f).eraseIdx k = (l.eraseIdx k).map f
  | [], _ => rfl
  | _ :: _, 0 => rfl
  | x :: l, k + 1 => by
    show f x :: (l.map f).eraseIdx k = f x :: (l.eraseIdx k).map f
    rw [erase_map f l k]
theorem sixIn {l : List V} {d : Int} (h0 : 0 ≤ d) (h1 : d < l.length) : ∃ y, l[d.toNat]? = some y ∧ y ∈ l := by
  have hj : d.toNat < l.length := by omega
  exact ⟨l[d.toNat], List.getElem?_eq_getElem hj, List.getElem_mem hj⟩
end Nl
end
section
set_option maxHeartbeats 2000000
namespace Nl
open PySem PySem.Spec PyProof.Rows L2 Nt
def lcScope (e : Expr) : Scope := match e with
  | .ListComp _ _ sc _ => sc
  | _ => { kind := .function, names := [], isGenerator := false, isCoroutine := false }
def asgV (s : Stmt) : Expr := match s with
  | .Assign _ v _ => v
  | .For _ _ (.Assign _ v _ :: _) _ _ => v
  | .Return (some v) _ => v
  | _ => .Name "x" ⟨0, 0, 0, 0⟩
def bodyAt (s : Stmt) (i : Nat) : Stmt := (defBody s).getD i (.Pass ⟨0, 0, 0, 0⟩)
/-- [E for pair in pipes if pair[c] == name] -/
def tPick (K : PySem.W.Frag) (jp jv jn : Nat) (c : Int) (te : TE) : TE := tLockE (tLc (iKeys (tVar jp)) (gName jv) (tTest (tOp rEq (tOp (rIxT K) (tVar jv) (tC (.int c))) (tVar jn))) te [jv])
theorem pick_ok {K : PySem.W.Frag} {Pp : Pi} {a : Addr} {H : Hp} {σ : L2.St} {te : TE} {jp jv jn : Nat} {c : Int} {z : Str} {Q : V → Hp → Prop} (sel : (Str × Str) × Int → Str) (val : (Str × Str) × Int → V)
    (hsel : ∀ p : (Str × Str) × Int, atI [V.str p.1.1, V.str p.1.2] c = some (.str (sel p))) (lp : Pp.length ≤ 200) (ha : H a = some (.dT (pt Pp))) (hjp : σ[jp]? = some (some (.ref a)))
    (hv : ∀ q : Addr, ((wipe σ [jv]).set jv (some (.ref q)))[jv]? = some (some (V.ref q))) (hn : ∀ q : Addr, ((wipe σ [jv]).set jv (some (.ref q)))[jn]? = some (some (V.str z)))
    (hw : ∀ q : Addr, wipe ((wipe σ [jv]).set jv (some (.ref q))) [jv] = wipe σ [jv])
    (ht : ∀ (p : (Str × Str) × Int) (q : Addr) (od : Obj) (H2 : Hp) (R : V → Hp → Prop), p ∈ Pp → Same (upd H a (.frz od (.dT (pt Pp)))) H2 → H2 q = some (.tup [.str p.1.1, .str p.1.2]) → R (val p) H2 → te ((wipe σ [jv]).set jv (some (.ref q))) H2 R)
    (q : ∀ D H', Same H H' → H D = none → H' D = some (.lst ((Pp.filter fun p => decide (sel p = z)).map val)) → Q (.ref D) H') : tPick K jp jv jn c te σ H Q := by
  refine ⟨a, _, ha, trivial, fun od => ?_⟩
  refine ⟨.ref a, hjp, a, od, rfl, .inr ⟨_, upd_same, fun D nD => ?_⟩⟩
  have hD0 : D ≠ a := fun e => by subst e; rw [upd_same] at nD; cases nD
  have nDH : H D = none := by rw [upd_ne hD0] at nD; exact nD
  refine lc_it (n := (pt Pp).length) walk_keysT (fun i H1 => H1 D = some (.lst (((Pp.take i).filter fun p => decide (sel p = z)).map val)) ∧ Same (upd H a (.frz od (.dT (pt Pp)))) H1) ⟨upd_same, same_new nD⟩ (fun i H1 _ h => h.2 a _ upd_same) ?_ ?_
  · rintro i x H1 H2 hi ⟨hD, sm⟩ ⟨rfl, kk, v, qq, hkv, rfl, hq⟩
    obtain ⟨p, hp, rfl, rfl⟩ := pt_at hkv
    have hm : p ∈ Pp := List.mem_of_getElem? hp
    refine ⟨hw qq, .ref qq, hv qq, qq, _, c, .str (sel p), rfl, rfl, SqT.of hq, hsel p, .str z, hn qq, rfl, _, rfl, ?_⟩
    rw [decStr]
    refine ite2 (fun e => ?_) (fun e => ?_)
    · refine ht p qq od H2 _ hm sm hq ⟨_, hD, ?_, ?_, ?_⟩
      · rw [List.length_map]
        refine small1000 (Nat.le_trans (List.length_filter_le _ _) ?_)
        rw [List.length_take]; omega
      · rw [upd_same, List.take_add_one, hp, List.filter_append, List.map_append]
        show _ = some (HO.lst (_ ++ List.map _ (List.filter _ [p])))
        rw [List.filter_cons, if_pos e]
        rfl
      · exact fun b o eb => by
          have nb : b ≠ D := ne_of_none eb nD
          rw [upd_ne nb]; exact sm b o eb
    · refine ⟨?_, sm⟩
      rw [hD, List.take_add_one, hp, List.filter_append, List.map_append]
      show _ = some (HO.lst (_ ++ List.map _ (List.filter _ [p])))
      rw [List.filter_cons, if_neg e]
      simp
  · rintro H1 ⟨hD, sm⟩
    obtain ⟨l1, l2⟩ := same_lock ha sm
    refine ⟨l1, q D _ l2 nDH ?_⟩
    rw [upd_ne hD0, hD, List.take_of_length_le (by unfold pt; rw [List.length_map]; exact Nat.le_refl _)]
/-- the width of a pair -/
theorem width_at {Pp : Pi} {a q : Addr} {od : Obj} {H H2 : Hp} {σ : L2.St} {jp jv : Nat} {p : (Str × Str) × Int} {R : V → Hp → Prop} (nd : (Pp.map Prod.fst).Nodup) (hm : p ∈ Pp) (sm : Same (upd H a (.frz od (.dT (pt Pp)))) H2) (hq : H2 q = some (.tup [.str p.1.1, .str p.1.2]))
    (hjp : σ[jp]? = some (some (.ref a))) (hv : σ[jv]? = some (some (.ref q))) (r : R (.int p.2) H2) : tDGet (tVar jp) (tVar jv) σ H2 R :=
  ⟨.ref a, hjp, .ref q, hv, a, .int p.2, rfl, .inr ⟨_, Rl.pk p.1, q, .inr ⟨od, sm a _ upd_same⟩, rfl, hq, by rw [valV_pt, getP_of_mem nd (show (p.1, p.2) ∈ Pp from hm)]; rfl⟩, r⟩
theorem at0 (p : (Str × Str) × Int) : atI [V.str p.1.1, V.str p.1.2] 0 = some (.str p.1.1) := atI_nat (j := 0) rfl
theorem at1 (p : (Str × Str) × Int) : atI [V.str p.1.1, V.str p.1.2] 1 = some (.str p.1.2) := atI_nat (j := 1) rfl
theorem get_bk {B : Br} {a : Addr} {H : Hp} {σ : L2.St} {jb jn : Nat} {z : Str} {c : Int} {R : V → Hp → Prop} (hb : Rd H a (.dK (bk B))) (g : getB B z = some c) (hjb : σ[jb]? = some (some (.ref a))) (hn : σ[jn]? = some (some (.str z))) (r : R (.int c) H) : tDGet (tVar jb) (tVar jn) σ H R :=
  ⟨.ref a, hjb, .str z, hn, a, .int c, rfl, .inl ⟨_, Sum.inr z, hb, rfl, by rw [valV_bk, g]; rfl⟩, r⟩
end Nl
end
section
set_option maxHeartbeats 2000000
namespace Nl
open PySem PySem.Spec PyProof.Rows L2 Nt
theorem leavesN_succ (P : Pi) : ∀ (n : Nat) (L : List Str), leavesN P (n + 1) L = leaves P (leavesN P n L)
  | 0, _ => rfl
  | n + 1, L => by
    show leavesN P (n + 1) (leaves P L) = leaves P (leavesN P n (leaves P L))
    exact leavesN_succ P n _
theorem leavesN_nodup (P : Pi) : ∀ (n : Nat) (L : List Str), L.Nodup → (leavesN P n L).Nodup
  | 0, _, h => h
  | n + 1, L, h => leavesN_nodup P n _ (h.sublist (List.filter_sublist))
theorem leavesN_len (P : Pi) (n : Nat) (L : List Str) (h : L.Nodup) : (leavesN P n L).length ≤ L.length := len_le_of_sub (leavesN_nodup P n L h) (leavesN_sub P n L)
def leafB (P : Pi) (L : List Str) (x : Str) : Bool := (P.filter fun p => decide (p.1.1 = x)).all fun p => decide (p.1.2 ∈ L)
/-- [x for x in xs if ..], xs a list of texts -/
theorem keep_lc {K : PySem.W.Frag} {l : List Str} {b : Str → Bool} {e D : Addr} {H1 : Hp} {σ : L2.St} {tt : TT} {j : Nat} {Qd : Hp → Prop} (ln : l.length ≤ 200) (he : H1 e = some (.lst (l.map V.str))) (nD : H1 D = none)
    (hj : ∀ z : Str, ((wipe σ [j]).set j (some (.str z)))[j]? = some (some (V.str z))) (hw : ∀ z : Str, wipe ((wipe σ [j]).set j (some (.str z))) [j] = wipe σ [j])
    (ht : ∀ (z : Str) (H2 : Hp) (R : Bool → Hp → Prop), z ∈ l → Same H1 H2 → (∀ H3, Same H2 H3 → R (b z) H3) → tt ((wipe σ [j]).set j (some (.str z))) H2 R)
    (hd : ∀ H2, H2 D = some (.lst ((l.filter b).map V.str)) → Same H1 H2 → Qd H2) :
    ∃ W : Nat → Nat → Hp → Prop, (∃ m, W 0 m (upd H1 D (.lst []))) ∧ ∀ i m H, W i m H →
      ((Itl K e).stop i H ∧ Qd H) ∨ ((Itl K e).go i H ∧ ∃ Nx : Hp → Prop, (∀ H', Nx H' → ∃ m', m' < m ∧ W (i + 1) m' H') ∧
        ∀ x H', (Itl K e).yld i H x H' → gName j x (wipe σ [j]) H' fun σ2 H2 => wipe σ2 [j] = wipe σ [j] ∧ tt σ2 H2 fun b H3 => if b = true then tVar j σ2 H3 fun y H4 => ∃ acc, H4 D = some (.lst acc) ∧ acc.length < sizeLine ∧ Nx (upd H4 D (.lst (acc ++ [y]))) else Nx H3) := by
  refine lc_it (walk_list (K := K) (a := e) (xs := l.map V.str)) (fun i H2 => H2 D = some (.lst (((l.take i).filter b).map V.str)) ∧ Same H1 H2) ⟨upd_same, same_new nD⟩ (fun i H2 _ h => SqL.of (h.2 e _ he)) ?_ ?_
  · rintro i x H2 H2' hi ⟨hD, sm⟩ ⟨rfl, hx⟩
    rw [List.getElem?_map] at hx
    cases hy : l[i]? with
    | none => rw [hy] at hx; cases hx
    | some z =>
      rw [hy] at hx
      have hx' : V.str z = x := Option.some.inj hx
      subst hx'
      have tk : l.take (i + 1) = l.take i ++ [z] := by rw [List.take_add_one, hy]; rfl
      refine ⟨hw z, ht z H2' _ (List.mem_of_getElem? hy) sm fun H3 s3 => ite2 (fun c => ?_) (fun c => ?_)⟩
      · refine ⟨.str z, hj z, _, s3 D _ hD, ?_, ?_, ?_⟩
        · rw [List.length_map]
          refine small1000 (Nat.le_trans (List.length_filter_le _ _) ?_)
          rw [List.length_take]; omega
        · rw [upd_same, tk, List.filter_append, List.map_append]
          show _ = some (HO.lst (_ ++ List.map _ (List.filter _ [z])))
          rw [List.filter_cons, if_pos c]; rfl
        · exact fun c o ec => by
            have nb : c ≠ D := ne_of_none ec nD
            rw [upd_ne nb]; exact s3 c o (sm c o ec)
      · refine ⟨?_, sm.trans s3⟩
        rw [s3 D _ hD, tk, List.filter_append]
        show _ = some (HO.lst (List.map _ (_ ++ List.filter _ [z])))
        rw [List.filter_cons, if_neg c]
        simp
  · rintro H2 ⟨hD, sm⟩
    rw [List.length_map, List.take_length] at hD
    exact hd H2 hD sm
end Nl
end
section
set_option maxHeartbeats 1000000
namespace Nl
open PySem PySem.Spec PyProof.Rows L2 Nt
/-! ### a cut between statements -/
def tMid (t : TS) : TS := fun D σ H => ∃ M : L2.St → Hp → Prop, t { D with nx := M } σ H ∧ ∀ σ' H', M σ' H' → D.nx σ' H'
theorem ps_mid {X : Cx} {st : Stmt} {t : TS} (h : PS X st t) : PS X st (tMid t) := by
  refine ⟨fun pins s σ H D I ⟨M, hw, hm⟩ => ?_⟩
  refine thn (h.run pins s σ _ _ I hw) fun f s1 q => ?_
  cases f with
  | next => obtain ⟨σ', H', I2, q⟩ := q; exact ⟨σ', H', I2, hm _ _ q⟩
  | brk => exact q
  | cont => exact q
  | ret v => exact q
/-! ### texts by their signs -/
theorem mk_toList (l : List Nat) : (⟨l.toArray⟩ : Str).cps.toList = l := by simp
theorem add_list (x y : Str) : (x ++ y).cps.toList = x.cps.toList ++ y.cps.toList := by rw [Str.cps_append, Array.toList_append]
theorem sIx_nat {n d : Nat} {k : Int} (h0 : 0 ≤ k) (h1 : k ≤ n) : HT.sIx n d (some k) = k.toNat := by
  unfold HT.sIx
  show (if k < 0 then (k + (n : Int)).toNat else min k.toNat n) = k.toNat
  rw [if_neg (by omega)]
  omega
theorem sIx_none (n d : Nat) : HT.sIx n d none = d := rfl
theorem cut_to {z : Str} {k : Int} (h0 : 0 ≤ k) (h1 : k ≤ z.length) : (cutS z none (some k)).cps.toList = z.cps.toList.take k.toNat := by
  unfold cutS
  rw [mk_toList, sIx_none, sIx_nat h0 h1, List.drop_zero, Nat.sub_zero]
theorem cut_from {z : Str} {k : Int} (h0 : 0 ≤ k) (h1 : k ≤ z.length) : (cutS z (some k) none).cps.toList = z.cps.toList.drop k.toNat := by
  unfold cutS
  rw [mk_toList, sIx_none, sIx_nat h0 h1]
  refine List.take_of_length_le ?_
  rw [List.length_drop, ← len_list]
  exact Nat.le_refl _
theorem cut_all {z : Str} {k : Int} (h0 : 0 ≤ k) (h1 : (z.length : Int) < k) : (cutS z none (some k)).cps.toList = z.cps.toList := by
  unfold cutS
  rw [mk_toList, sIx_none, List.drop_zero, Nat.sub_zero]
  refine List.take_of_length_le ?_
  rw [← len_list]
  show z.length ≤ if k < 0 then (k + (z.length : Int)).toNat else min k.toNat z.length
  rw [if_neg (by omega)]
  omega
theorem cut_mem {z : Str} {lo hi : Option Int} {c : Nat} (h : c ∈ (cutS z lo hi).cps.toList) : c ∈ z.cps.toList := by
  unfold cutS at h
  rw [mk_toList] at h
  exact List.mem_of_mem_drop (List.mem_of_mem_take h)
def Ab (z : Str) : Prop := ∀ c ∈ z.cps.toList, c ∈ abc.cps.toList
theorem Nm.ab {z : Str} (h : Nm z) : Ab z := (Nm.iff.mp h).2
theorem nm_of {z : Str} (a : Ab z) (h1 : 1 ≤ z.cps.toList.length) (h8 : z.cps.toList.length ≤ 8) : Nm z := Nm.iff.mpr ⟨by rw [len_list]; exact ⟨h1, h8⟩, a⟩
theorem Ab.sm {z : Str} (a : Ab z) {n : Nat} (h : z.cps.toList.length ≤ n) : Sm n z := ⟨by rw [len_list]; exact h, fun c hc => abc_small c (a c hc)⟩
theorem Ab.add {x y : Str} (a : Ab x) (b : Ab y) : Ab (x ++ y) := fun c hc => by
  rw [add_list] at hc
  exact (List.mem_append.mp hc).elim (a c) (b c)
theorem Ab.cut {z : Str} (a : Ab z) (lo hi : Option Int) : Ab (cutS z lo hi) := fun c hc => a c (cut_mem hc)
theorem abc_len : abc.length = 26 := by decide +kernel
theorem abc_len2 : abc.cps.toList.length = 26 := by decide +kernel
theorem abc_at {d : Int} (h0 : 0 ≤ d) (h1 : d < 26) : ∃ c, atI abc.cps.toList d = some c ∧ c ∈ abc.cps.toList ∧ abc.cps.toList[d.toNat]? = some c := by
  obtain ⟨j, rfl⟩ : ∃ j : Nat, d = (j : Int) := ⟨d.toNat, by omega⟩
  have hj : j < abc.cps.toList.length := by rw [abc_len2]; omega
  exact ⟨abc.cps.toList[j], atI_nat (List.getElem?_eq_getElem hj), List.getElem_mem hj, List.getElem?_eq_getElem hj⟩
theorem join_nil_list : ∀ ys : List Str, (Txt.join Str.empty ys).cps.toList = (ys.map (fun y => y.cps.toList)).flatten := by
  intro ys
  rw [TL.join_eq]
  induction ys with
  | nil => rfl
  | cons x r ih =>
    cases r with
    | nil => simp [Str.join]
    | cons y r =>
      show (x ++ Str.empty ++ Str.join Str.empty (y :: r)).cps.toList = _
      rw [Str.cps_append, Array.toList_append, ih, Str.cps_append, Array.toList_append]
      simp [Str.empty]
def sg (c : Nat) : Str := ⟨#[c]⟩
theorem join_sg (cs : List Nat) : (Txt.join Str.empty (cs.map sg)).cps.toList = cs := by
  rw [join_nil_list]
  induction cs with
  | nil => rfl
  | cons c cs ih =>
    rw [List.map_cons, List.map_cons, List.flatten_cons, ih]
    rfl
theorem lens_sg (cs : List Nat) : ((cs.map sg).map (·.length)).sum = cs.length := by
  induction cs with
  | nil => rfl
  | cons c cs ih =>
    rw [List.map_cons, List.map_cons, List.sum_cons, ih, List.length_cons]
    show 1 + _ = _
    omega
theorem PotAt.same {H H' : Hp} {p : Addr} (h : PotAt H p) (s : Same H H') : PotAt H' p := by
  obtain ⟨a, b, hp, hab⟩ := h
  exact ⟨a, b, s _ _ hp, hab⟩
/-! ### a name that is not taken yet -/
def cand (z : Str) (k : Nat) : Str := z ++ sg (abc.cps.toList.getD (k / 26) 0) ++ sg (abc.cps.toList.getD (k % 26) 0)
theorem abc_inj : ∀ i j : Nat, i < 26 → j < 26 → abc.cps.toList.getD i 0 = abc.cps.toList.getD j 0 → i = j := by
  have h : ∀ i : Fin 26, ∀ j : Fin 26, abc.cps.toList.getD i.1 0 = abc.cps.toList.getD j.1 0 → i = j := by decide +kernel
  intro i j hi hj e
  have := h ⟨i, hi⟩ ⟨j, hj⟩ e
  exact congrArg Fin.val this
theorem cand_list (z : Str) (k : Nat) : (cand z k).cps.toList = z.cps.toList ++ [abc.cps.toList.getD (k / 26) 0, abc.cps.toList.getD (k % 26) 0] := by
  unfold cand
  rw [add_list, add_list, List.append_assoc]; rfl
theorem cand_inj {z : Str} {i j : Nat} (hi : i < 90) (hj : j < 90) (e : cand z i = cand z j) : i = j := by
  have h := congrArg (fun s : Str => s.cps.toList) e
  simp only [cand_list] at h
  have h2 := List.append_cancel_left h
  have h3 : abc.cps.toList.getD (i / 26) 0 = abc.cps.toList.getD (j / 26) 0 := by
    injection h2
  have h4 : abc.cps.toList.getD (i % 26) 0 = abc.cps.toList.getD (j % 26) 0 := by
    injection h2 with _ h5
    injection h5
  have a := abc_inj (i / 26) (j / 26) (by omega) (by omega) h3
  have b := abc_inj (i % 26) (j % 26) (by omega) (by omega) h4
  omega
theorem cand_nd (z : Str) : ((List.range 90).map (cand z)).Nodup := by
  unfold List.Nodup
  rw [List.pairwise_map]
  exact List.Pairwise.imp_of_mem (fun {a b} ha hb h e => h (cand_inj (List.mem_range.mp ha) (List.mem_range.mp hb) e)) (List.nodup_range (n := 90))
theorem cand_free {z : Str} {L : List Str} (h : L.length < 90) : (((List.range 90).map (cand z)).filter fun x => !decide (x ∈ L)) ≠ [] := by
  intro e
  have := len_le_of_sub (cand_nd z) (m := L) fun x hx => by
    by_cases hm : x ∈ L
    · exact hm
    · have : x ∈ (((List.range 90).map (cand z)).filter fun x => !decide (x ∈ L)) := List.mem_filter.mpr ⟨hx, by rw [decide_eq_false hm]; rfl⟩
      rw [e] at this
      exact absurd this List.not_mem_nil
  rw [List.length_map, List.length_range] at this
  omega
end Nl
end
section
set_option maxHeartbeats 2000000
namespace Rl
open PySem PySem.W PySem.Calls PyProof.Rows PyProof.V PySem.Spec DT
section
variable {K : Type} [DecidableEq K] {prog : Program} {w : World} {knd : HeapKind prog w K}
theorem meetsPop1 {d b : Addr} {k : K} (hd : (d == sysModules) = false) :
    MeetsIn prog w (Builtin.«dict.pop» ⟨[.ref d, .ref b], []⟩) (fun A R s => ∃ xs p, knd.room A.in1 ∧ knd.is s.heap k b ∧ s.heap.DictOfH knd d xs ∧ xs.length ≤ sizeLine ∧ atKey xs k = some p ∧
      ∀ h' tk, h'.DictOfH knd d (dropH xs k) → Heap.SameBut d s.heap h' → R (.ok (.ret p.2)) { s with heap := h', toks := tk }) :=
  .of_wp fun A R s ⟨xs, p0, hu, hkey, hm, hsz, hat, hsome⟩ => by
    obtain ⟨o, es, ep, ho, hc, hdat, he, his, hn⟩ := id hm
    have hes : es.size = xs.length := size_of_entries he
    have hpart : (keyPart (Value.ref b)).isSome = false := rfl
    unfold Builtin.«dict.pop»
    refine wpAny_bind ?_
    unfold Builtin.Dict.keyAndDefault
    refine wpAny_bind (wpAny_notOrdered_dict hm.typeIs ?_)
    show wpAny _ _ (pure (d, Value.ref b, none)) _ _ s
    refine wpAny_pure ?_
    simp only [hpart, Bool.false_eq_true, if_false]
    refine wpAny_bind (wpAny_dictEntries ho hdat (wpAny_bind (wpAny_pure ?_)))
    cases hem : es.isEmpty with
    | true =>
      have h0 : xs = [] := by
        have z : es.size = 0 := by simpa using hem
        exact List.length_eq_zero_iff.mp (by omega)
      rw [h0] at hat
      cases hat
    | false =>
      simp only [Bool.false_eq_true, if_false]
      refine wpAny_bind (takeH hu hkey hm hsz (fun hno => ?_) fun p e hp hev h' hm' hs' => ?_)
      · rw [hat] at hno; cases hno
      · simp only [Option.isNone_some, Bool.false_eq_true, if_false]
        rw [hat] at hp
        cases hp
        exact wpAny_bind (wpAny_letGo (wpAny_pure ⟨e.val, rfl, by rw [hev]; exact hsome h' _ hm' hs'⟩))
end
end Rl
namespace Rl
open PySem PySem.Spec PyProof.Rows L2 L2.DX
section
variable {X : Cx}
def rPopT1 : V → List V → Hp → VK → Prop := fun x xs H Q => ∃ (a : Addr) (kvs : List (List L2.Key × V)) (k : List L2.Key) (b : Addr) (v : V), x = .ref a ∧ xs = [.ref b] ∧ H a = some (.dT kvs) ∧ H b = some (.tup (k.map kV)) ∧ valV kvs k = some v ∧ Q v (upd H a (.dT (dropK kvs k)))
theorem mt_popT1 (hu : X.A.units + 1 < cLine) : MtR X "dict.pop" rPopT1 := by
  intro pins s σ H x xs v us Q I rx rxs h
  obtain ⟨a, kvs, k, b, v0, rfl, rfl, ha, hb, ev, q1⟩ := h
  cases rx
  obtain ⟨u1, rfl, r1⟩ : ∃ u1, us = [u1] ∧ RelV (.ref b) u1 := by
    cases rxs with
    | cons h t => cases t; exact ⟨_, rfl, h⟩
  cases r1
  obtain ⟨z, hd, xs', rel, dd⟩ := dt_of I.hok ha
  have hz : xs'.length ≤ sizeLine := by rw [← Paired.length rel]; exact z
  have r := rel.val k
  rw [ev] at r
  obtain ⟨p, hp, rv⟩ : ∃ p, atKey xs' k = some p ∧ RelV v0 p.2 := by
    cases e : atKey xs' k with
    | none => rw [e] at r; exact (show False from r).elim
    | some p => rw [e] at r; exact ⟨p, rfl, r⟩
  refine call_meetsIn PySem.F.slot_dict_pop dd.typeIs PySem.F.entry_dict_pop (PySem.F.args_dict_pop_2 _ _) (meetsPop1 (knd := tupleKind (mixKind X.prog X.w)) (k := k) hd)
    ⟨xs', p, tupleKind_room_in1 hu, key_of I.hok hb, dd, hz, hp, fun h' tk dd' hs => ?_⟩
  obtain ⟨o, es, ep, hq, h2, h3, h4, _, h5⟩ := dd'
  have I2 : Inv X pins σ (upd H a (.dT (dropK kvs k))) { s with heap := h', toks := tk } :=
    d_write I (by rw [ha]; exact True.intro) hs ⟨o, hq⟩ ⟨Nat.le_trans (dropK_le kvs k) z, hd, _, (KT_drop k rel).keeps (fun c ys ec => (by rw [upd_ne (ne_of ec ha (fun z => nomatch z))]; exact ec)), o, es, ep, hq, h2, h3, h4, h5⟩
  show EP X pins σ Q p.2 _
  exact ⟨v0, _, I2, rv, q1⟩
end
end Rl
end
section
set_option maxHeartbeats 1000000
namespace Nl
open PySem PySem.Spec PyProof.Rows L2 Nt
theorem sumOf_append (f : (Str × Str) × Int → Bool) (P R : Pi) : sumOf f (P ++ R) = sumOf f P + sumOf f R := by
  unfold sumOf
  rw [List.filter_append, List.map_append, List.sum_append]
theorem sumOf_one (f : (Str × Str) × Int → Bool) (p : (Str × Str) × Int) : sumOf f [p] = if f p = true then p.2 else 0 := by
  unfold sumOf
  by_cases h : f p = true
  · rw [List.filter_cons, if_pos h, if_pos h]; simp
  · rw [List.filter_cons, if_neg h, if_neg h]; rfl
theorem sumOf_split (f g : (Str × Str) × Int → Bool) (P : Pi) : sumOf f P = sumOf f (P.filter g) + sumOf f (P.filter fun p => !g p) := by
  induction P with
  | nil => rfl
  | cons p r ih =>
    have e : ∀ l : Pi, sumOf f (p :: l) = sumOf f [p] + sumOf f l := fun l => sumOf_append f [p] l
    rw [e r, ih]
    by_cases h : g p = true
    · rw [List.filter_cons, if_pos h, List.filter_cons, if_neg (by rw [h]; decide), e (List.filter g r)]
      omega
    · rw [List.filter_cons, if_neg h, List.filter_cons, if_pos (by simp [h]), e (List.filter (fun p => !g p) r)]
      omega
theorem outW_add (P : Pi) (q : Str × Str) (v : Int) (x : Str) : outW (P ++ [(q, v)]) x = outW P x + if q.1 = x then v else 0 := by
  unfold outW
  rw [sumOf_append, sumOf_one]
  by_cases h : q.1 = x
  · rw [if_pos (decide_eq_true h), if_pos h]
  · rw [if_neg (by simp [h]), if_neg h]
theorem inW_add (P : Pi) (q : Str × Str) (v : Int) (x : Str) : inW (P ++ [(q, v)]) x = inW P x + if q.2 = x then v else 0 := by
  unfold inW
  rw [sumOf_append, sumOf_one]
  by_cases h : q.2 = x
  · rw [if_pos (decide_eq_true h), if_pos h]
  · rw [if_neg (by simp [h]), if_neg h]
theorem wf_add {B : Br} {P : Pi} (wf : Wf Nm B P) {x y : Str} {v : Int} (hx : x ∈ nms B) (hy : y ∈ nms B) (ne : x ≠ y) (v1 : 1 ≤ v) (v60 : v ≤ 60) (fr : (x, y) ∉ P.map Prod.fst) (ln : P.length < 200) : Wf Nm B (P ++ [((x, y), v)]) where
  nb := wf.nb
  lb := wf.lb
  rb := wf.rb
  np := by
    rw [List.map_append, List.nodup_append]
    refine ⟨wf.np, by simp, fun a ha b hb e => ?_⟩
    have hb' : b = (x, y) := by simpa using hb
    exact fr (by rw [← hb', ← e]; exact ha)
  lp := by rw [List.length_append]; show P.length + 1 ≤ 200; omega
  rp := fun p hp => by
    rcases List.mem_append.mp hp with h | h
    · exact wf.rp p h
    · have : p = ((x, y), v) := by simpa using h
      subst this
      exact ⟨hx, hy, ne, v1, v60⟩
theorem fit_add {B : Br} {P : Pi} (wf : Wf Nm B P) (fit : Fit B P) {x y : Str} {c d v : Int} (hc : getB B x = some c) (hd : getB B y = some d) (h1 : v ≤ c - outW P x) (h2 : v ≤ d - inW P y) (v1 : 1 ≤ v) : Fit B (P ++ [((x, y), v)]) := fun p hp => by
  obtain ⟨f1, f2⟩ := fit p hp
  have g := getB_of_mem wf.nb (show (p.1, p.2) ∈ B from hp)
  rw [outW_add, inW_add]
  show outW P p.1 + (if x = p.1 then v else 0) ≤ p.2 ∧ inW P p.1 + (if y = p.1 then v else 0) ≤ p.2
  constructor
  · by_cases h : x = p.1
    · rw [if_pos h]
      rw [← h, hc] at g
      have : c = p.2 := Option.some.inj g
      rw [← h]; omega
    · rw [if_neg h]; omega
  · by_cases h : y = p.1
    · rw [if_pos h]
      rw [← h, hd] at g
      have : d = p.2 := Option.some.inj g
      rw [← h]; omega
    · rw [if_neg h]; omega
/-! ### one pipe less -/
def less (P : Pi) (q : Str × Str) : Pi := P.filter fun p => decide (p.1 ≠ q)
theorem drop_pt (P : Pi) (q : Str × Str) : dropK (pt P) (Rl.pk q) = pt (less P q) := by
  unfold dropK pt less
  rw [List.filter_map]
  congr 1
  refine List.filter_congr fun p _ => ?_
  show decide (Rl.pk p.1 ≠ Rl.pk q) = decide (p.1 ≠ q)
  by_cases h : p.1 = q
  · rw [h]; simp
  · rw [decide_eq_true (show p.1 ≠ q from h)]
    exact decide_eq_true fun e => h (Rl.pk_inj e)
theorem less_sub {P : Pi} {q : Str × Str} {p : (Str × Str) × Int} (h : p ∈ less P q) : p ∈ P := (List.mem_filter.mp h).1
theorem wf_less {B : Br} {P : Pi} (wf : Wf Nm B P) (q : Str × Str) : Wf Nm B (less P q) where
  nb := wf.nb
  lb := wf.lb
  rb := wf.rb
  np := wf.np.sublist (List.filter_sublist.map _)
  lp := Nat.le_trans (List.length_filter_le _ _) wf.lp
  rp := fun p hp => wf.rp p (less_sub hp)
theorem sum_less {B : Br} {P : Pi} (wf : Wf Nm B P) (q : Str × Str) (f : (Str × Str) × Int → Bool) : sumOf f (less P q) ≤ sumOf f P := by
  rw [sumOf_split f (fun p => decide (p.1 ≠ q)) P]
  have := sumOf_nonneg (f := f) (P := P.filter fun p => !decide (p.1 ≠ q)) fun p hp => by
    have := (wf.rp p (List.mem_filter.mp hp).1).2.2.2.1
    omega
  unfold less
  omega
theorem fit_less {B : Br} {P : Pi} (wf : Wf Nm B P) (fit : Fit B P) (q : Str × Str) : Fit B (less P q) := fun p hp => by
  obtain ⟨f1, f2⟩ := fit p hp
  have := sum_less wf q (fun r => decide (r.1.1 = p.1))
  have := sum_less wf q (fun r => decide (r.1.2 = p.1))
  unfold outW inW at *
  omega
theorem sumOf_ge {B : Br} {P : Pi} (wf : Wf Nm B P) {f : (Str × Str) × Int → Bool} {R : Pi} (hs : ∀ p ∈ R, p ∈ P) {p : (Str × Str) × Int} (hp : p ∈ R) (hf : f p = true) : 1 ≤ sumOf f R := by
  obtain ⟨l, r, rfl⟩ := List.append_of_mem hp
  rw [sumOf_append, show p :: r = [p] ++ r from rfl, sumOf_append, sumOf_one, if_pos hf]
  have nn : ∀ R' : Pi, (∀ q ∈ R', q ∈ l ++ p :: r) → 0 ≤ sumOf f R' := fun R' h => sumOf_nonneg fun q hq => by
    have := (wf.rp q (hs q (h q hq))).2.2.2.1
    omega
  have h1 := nn l fun q hq => List.mem_append_left _ hq
  have h2 := nn r fun q hq => List.mem_append_right _ (List.mem_cons_of_mem _ hq)
  have h3 := (wf.rp p (hs p hp)).2.2.2.1
  omega
theorem out_less {B : Br} {P : Pi} (wf : Wf Nm B P) {x y : Str} {v : Int} (h : ((x, y), v) ∈ P) : outW (less P (x, y)) x < outW P x := by
  unfold outW
  rw [sumOf_split (fun p => decide (p.1.1 = x)) (fun p => decide (p.1 ≠ (x, y))) P]
  have := sumOf_ge wf (f := fun p => decide (p.1.1 = x)) (R := P.filter fun p => !decide (p.1 ≠ (x, y))) (fun p hp => (List.mem_filter.mp hp).1) (p := ((x, y), v)) (List.mem_filter.mpr ⟨h, by simp⟩) (decide_eq_true rfl)
  unfold less
  omega
/-- a way out stays, and the pond that lost its pipe soaks -/
theorem opn_less {B : Br} {P : Pi} (wf : Wf Nm B P) (fit : Fit B P) {x y : Str} {v : Int} (h : ((x, y), v) ∈ P) : Opn B (less P (x, y)) x ∧ ∀ z, Opn B P z → Opn B (less P (x, y)) z := by
  have hx : Opn B (less P (x, y)) x := by
    obtain ⟨c, hc⟩ := getB_some (wf.rp _ h).1
    have m := getB_mem hc
    have f := (fit _ m).1
    have o := out_less wf h
    exact .soak m (by
      show outW (less P (x, y)) x < c
      have f' : outW P x ≤ c := f
      omega)
  refine ⟨hx, fun z o => ?_⟩
  induction o with
  | @soak z b m l =>
    refine .soak m ?_
    have := sum_less wf (x, y) (fun r => decide (r.1.1 = z))
    unfold outW at *
    omega
  | @step a b w m _ ih =>
    by_cases e : (a, b) = (x, y)
    · have : a = x := congrArg Prod.fst e
      rw [this]; exact hx
    · exact .step (List.mem_filter.mpr ⟨m, decide_eq_true e⟩) ih
/-- at most n ponds have no way out -/
def Few (B : Br) (P : Pi) (n : Nat) : Prop := ∀ L : List Str, L.Nodup → (∀ x ∈ L, x ∈ nms B ∧ ¬ Opn B P x) → L.length ≤ n
theorem few_all {B : Br} {P : Pi} : Few B P B.length := fun L nd h => by
  have := len_le_of_sub nd (m := nms B) fun x hx => (h x hx).1
  rw [nms_len] at this
  exact this
theorem few_less {B : Br} {P : Pi} (wf : Wf Nm B P) (fit : Fit B P) {x y : Str} {v : Int} (h : ((x, y), v) ∈ P) (cx : ¬ Opn B P x) {n : Nat} (f : Few B P (n + 1)) : Few B (less P (x, y)) n := fun L nd hl => by
  obtain ⟨ox, keep⟩ := opn_less wf fit h
  have := f (x :: L) (List.nodup_cons.mpr ⟨fun m => (hl x m).2 ox, nd⟩) fun z hz => by
    rcases List.mem_cons.mp hz with rfl | hz
    · exact ⟨(wf.rp _ h).1, cx⟩
    · exact ⟨(hl z hz).1, fun o => (hl z hz).2 (keep z o)⟩
  rw [List.length_cons] at this
  omega
theorem few_none {B : Br} {P : Pi} (h : ∀ x, x ∈ nms B → Opn B P x) (n : Nat) : Few B P n := fun L nd hl => by
  cases L with
  | nil => exact Nat.zero_le _
  | cons x l => exact absurd (h x (hl x List.mem_cons_self).1) (hl x List.mem_cons_self).2
theorem few_zero {B : Br} {P : Pi} (f : Few B P 0) : ∀ x ∈ nms B, Opn B P x := fun x hx => by
  by_cases o : Opn B P x
  · exact o
  · have := f [x] (by simp) fun z hz => by
      have : z = x := by simpa using hz
      subst this; exact ⟨hx, o⟩
    exact absurd this (by show ¬ (1 ≤ 0); decide)
/-- a closed pond has a pipe -/
theorem closed_pipe {B : Br} {P : Pi} (wf : Wf Nm B P) {x : Str} (hx : x ∈ nms B) (cx : ¬ Opn B P x) : ∃ y v, ((x, y), v) ∈ P := by
  obtain ⟨c, hc⟩ := getB_some hx
  have m := getB_mem hc
  have c1 := (wf.rb _ m).2.1
  have nl : ¬ outW P x < c := fun l => cx (.soak m l)
  cases hf : P.filter fun p => decide (p.1.1 = x) with
  | nil =>
    have : outW P x = 0 := by unfold outW sumOf; rw [hf]; rfl
    have c1' : 1 ≤ c := c1
    omega
  | cons p r =>
    have hp : p ∈ P.filter fun p => decide (p.1.1 = x) := by rw [hf]; exact List.mem_cons_self
    obtain ⟨h1, h2⟩ := List.mem_filter.mp hp
    have e : p.1.1 = x := of_decide_eq_true h2
    exact ⟨p.1.2, p.2, by rw [← e]; exact h1⟩
end Nl
end
section
set_option maxHeartbeats 2000000
namespace Nl
open PySem PySem.Spec PyProof.Rows L2 Nt
theorem pair_lc {K : PySem.W.Frag} {qs : List (Addr × (Str × Str))} {e D : Addr} {H1 : Hp} {σ : L2.St} {jv jn : Nat} {z : Str} {Qd : Hp → Prop} (ln : qs.length ≤ 900) (he : H1 e = some (.lst (qs.map fun q => V.ref q.1))) (nD : H1 D = none)
    (hq : ∀ q ∈ qs, H1 q.1 = some (.tup [.str q.2.1, .str q.2.2]))
    (hv : ∀ q : Addr, ((wipe σ [jv]).set jv (some (.ref q)))[jv]? = some (some (V.ref q))) (hn : ∀ q : Addr, ((wipe σ [jv]).set jv (some (.ref q)))[jn]? = some (some (V.str z)))
    (hw : ∀ q : Addr, wipe ((wipe σ [jv]).set jv (some (.ref q))) [jv] = wipe σ [jv])
    (hd : ∀ H2, H2 D = some (.lst ((qs.filter fun q => decide (q.2.1 = z)).map fun q => V.ref q.1)) → Same H1 H2 → Qd H2) :
    ∃ W : Nat → Nat → Hp → Prop, (∃ m, W 0 m (upd H1 D (.lst []))) ∧ ∀ i m H, W i m H →
      ((Itl K e).stop i H ∧ Qd H) ∨ ((Itl K e).go i H ∧ ∃ Nx : Hp → Prop, (∀ H', Nx H' → ∃ m', m' < m ∧ W (i + 1) m' H') ∧
        ∀ x H', (Itl K e).yld i H x H' → gName jv x (wipe σ [jv]) H' fun σ2 H2 => wipe σ2 [jv] = wipe σ [jv] ∧ tTest (tOp rEq (tOp (rIxT K) (tVar jv) (tC (.int 0))) (tVar jn)) σ2 H2 fun b H3 =>
          if b = true then tVar jv σ2 H3 fun y H4 => ∃ acc, H4 D = some (.lst acc) ∧ acc.length < sizeLine ∧ Nx (upd H4 D (.lst (acc ++ [y]))) else Nx H3) := by
  refine lc_it (walk_list (K := K) (a := e) (xs := qs.map fun q => V.ref q.1)) (fun i H2 => H2 D = some (.lst (((qs.take i).filter fun q => decide (q.2.1 = z)).map fun q => V.ref q.1)) ∧ Same H1 H2) ⟨upd_same, same_new nD⟩ (fun i H2 _ h => SqL.of (h.2 e _ he)) ?_ ?_
  · rintro i x H2 H2' hi ⟨hD, sm⟩ ⟨rfl, hx⟩
    rw [List.getElem?_map] at hx
    cases hy : qs[i]? with
    | none => rw [hy] at hx; cases hx
    | some q =>
      rw [hy] at hx
      have hx' : V.ref q.1 = x := Option.some.inj hx
      subst hx'
      have tk : qs.take (i + 1) = qs.take i ++ [q] := by rw [List.take_add_one, hy]; rfl
      refine ⟨hw q.1, .ref q.1, hv q.1, q.1, [.str q.2.1, .str q.2.2], 0, .str q.2.1, rfl, rfl, SqT.of (sm _ _ (hq q (List.mem_of_getElem? hy))), atI_nat (j := 0) rfl, .str z, hn q.1, rfl, _, rfl, ?_⟩
      rw [decStr]
      refine ite2 (fun c => ?_) (fun c => ?_)
      · refine ⟨.ref q.1, hv q.1, _, hD, ?_, ?_, ?_⟩
        · rw [List.length_map]
          refine small1000 (Nat.le_trans (List.length_filter_le _ _) ?_)
          rw [List.length_take]; omega
        · rw [upd_same, tk, List.filter_append, List.map_append]
          show _ = some (HO.lst (_ ++ List.map _ (List.filter _ [q])))
          rw [List.filter_cons, if_pos c]; rfl
        · exact fun c o ec => by
            have nb : c ≠ D := ne_of_none ec nD
            rw [upd_ne nb]; exact sm c o ec
      · refine ⟨?_, sm⟩
        rw [hD, tk, List.filter_append]
        show _ = some (HO.lst (List.map _ (_ ++ List.filter _ [q])))
        rw [List.filter_cons, if_neg c]
        simp
  · rintro H2 ⟨hD, sm⟩
    rw [List.length_map, List.take_length] at hD
    exact hd H2 hD sm
theorem str_at {L : List Str} {d : Int} (h0 : 0 ≤ d) (h1 : d < L.length) : ∃ x, atI (L.map V.str) d = some (.str x) ∧ x ∈ L := by
  obtain ⟨j, rfl⟩ : ∃ j : Nat, d = (j : Int) := ⟨d.toNat, by omega⟩
  have hj : j < L.length := by omega
  exact ⟨L[j], atI_nat (by rw [List.getElem?_map, List.getElem?_eq_getElem hj]; rfl), List.getElem_mem hj⟩
theorem nms_at {B : Br} {i : Nat} {v : V} (h : ((nms B).map V.str)[i]? = some v) : ∃ x, v = .str x ∧ (nms B)[i]? = some x := by
  rw [List.getElem?_map] at h
  cases e : (nms B)[i]? with
  | none => rw [e] at h; cases h
  | some x => rw [e] at h; exact ⟨x, (Option.some.inj h).symm, rfl⟩
end Nl
end
section
set_option maxHeartbeats 1000000
namespace Nl
open PySem PySem.Spec PyProof.Rows L2 Nt
/-! ### what a stand tells is the same, whatever the order of the dicts -/
theorem val0_of_mem {B : Br} (nd : (nms B).Nodup) {x : Str} {c : Int} (h : (x, c) ∈ B) : val0 B x = c := by
  unfold val0
  rw [getB_of_mem nd h]; rfl
theorem val0_perm {B B' : Br} (pm : B.Perm B') (nd : (nms B).Nodup) (x : Str) : val0 B x = val0 B' x := by
  have nd' : (nms B').Nodup := (pm.map Prod.fst).nodup_iff.mp nd
  by_cases h : x ∈ nms B
  · obtain ⟨p, hp, e⟩ := List.mem_map.mp h
    have e' : p.1 = x := e
    rw [← e', val0_of_mem nd (show (p.1, p.2) ∈ B from hp), val0_of_mem nd' (show (p.1, p.2) ∈ B' from pm.mem_iff.mp hp)]
  · have h' : x ∉ nms B' := fun m => h ((pm.map Prod.fst).mem_iff.mpr m)
    unfold val0
    rw [getB_none h, getB_none h']
theorem insOf_perm {P P' : Pi} (pm : P.Perm P') (z : Str) : (insOf P z).Perm (insOf P' z) := (pm.filter _).map _
theorem waterOf_same {B B' Qp Qp' Qc Qc' : Br} {P P' : Pi} (pB : B.Perm B') (nd : (nms B).Nodup) (pP : P.Perm P') {z : Str} (hz : z ∈ nms B) (rp : ∀ r ∈ P, r.1.1 ∈ nms B) (hp : ∀ x ∈ nms B, val0 Qp x = val0 Qp' x) (hc : ∀ x ∈ nms B, val0 Qc x = val0 Qc' x) :
    waterOf B P Qp Qc z = waterOf B' P' Qp' Qc' z := by
  unfold waterOf
  rw [hp z hz, hc z hz, val0_perm pB nd z]
  have e1 : ((insOf P z).map fun p => p.2 * val0 Qc p.1) = (insOf P z).map fun p => p.2 * val0 Qc' p.1 := List.map_congr_left fun p h => by
    rw [hc p.1 (rp _ (insOf_mem h))]
  have e2 := perm_sum ((insOf_perm pP z).map fun p => p.2 * val0 Qc' p.1)
  rw [e1, e2]
end Nl
end
section
set_option maxHeartbeats 1000000
namespace Nl
open PySem PySem.Spec PyProof.Rows L2 Nt
/-! ### sorted in one way -/
theorem str_ext {x y : Str} (h : x.cps.toList = y.cps.toList) : x = y := by
  cases x with
  | mk a =>
    cases y with
    | mk b =>
      have : a = b := Array.toList_inj.mp h
      rw [this]
theorem rising_pw : ∀ (l : List Str) (p : Str), risingS p l = true → (p :: l).Pairwise (fun a b => a.cps.toList ≤ b.cps.toList)
  | [], p, _ => List.pairwise_singleton _ _
  | x :: r, p, h => by
    have h' : (!ltCps x.cps.toList p.cps.toList && risingS x r) = true := h
    obtain ⟨h1, h2⟩ := Bool.and_eq_true_iff.mp h'
    have ih := rising_pw r x h2
    rw [ltCps_eq] at h1
    have hpx : p.cps.toList ≤ x.cps.toList := fun z => by
      rw [decide_eq_true z] at h1; cases h1
    refine List.pairwise_cons.mpr ⟨fun y hy => ?_, ih⟩
    rcases List.mem_cons.mp hy with rfl | hy
    · exact hpx
    · exact List.le_trans hpx ((List.pairwise_cons.mp ih).1 y hy)
theorem sorted_pw {l : List Str} (h : sortedS l = true) : l.Pairwise (fun a b => a.cps.toList ≤ b.cps.toList) := by
  cases l with
  | nil => exact .nil
  | cons x r => exact rising_pw r x h
theorem pw_uniq : ∀ {l m : List Str}, l.Perm m → l.Pairwise (fun a b => a.cps.toList ≤ b.cps.toList) → m.Pairwise (fun a b => a.cps.toList ≤ b.cps.toList) → l = m
  | [], m, pm, _, _ => (List.nil_perm.mp pm).symm
  | x :: r, [], pm, _, _ => absurd pm.length_eq (by simp)
  | x :: r, y :: t, pm, hl, hm => by
    have e : x = y := by
      have h1 : x ∈ y :: t := pm.mem_iff.mp List.mem_cons_self
      have h2 : y ∈ x :: r := pm.mem_iff.mpr List.mem_cons_self
      rcases List.mem_cons.mp h1 with e | h1
      · exact e
      · rcases List.mem_cons.mp h2 with e | h2
        · exact e.symm
        · exact str_ext (List.le_antisymm ((List.pairwise_cons.mp hl).1 y h2) ((List.pairwise_cons.mp hm).1 x h1))
    subst e
    rw [pw_uniq pm.cons_inv (List.pairwise_cons.mp hl).2 (List.pairwise_cons.mp hm).2]
theorem sorted_uniq {l m : List Str} (pm : l.Perm m) (hl : sortedS l = true) (hm : sortedS m = true) : l = m := pw_uniq pm (sorted_pw hl) (sorted_pw hm)
/-! ### a stand, told by the dicts that the law has -/
def mostOf (B : Br) (Pp : Pi) (Qp Qc : Br) (z : Str) : Int := if waterOf B Pp Qp Qc z / val0 B z > 0 then waterOf B Pp Qp Qc z / val0 B z else 0
def soakOf (B : Br) (Pp : Pi) (Qc : Br) : Int := (B.map fun p => (p.2 - outW Pp p.1) * val0 Qc p.1).sum
def StOf (CS C : Addr) (H : Hp) (s : Addr) (B : Br) (Pp : Pi) (Qp Qc : Br) : Prop := ∃ (B' : Br) (P' : Pi) (Qp' Qc' : Br), StandAt CS C H s B' P' Qp' Qc' ∧ Good B' P' ∧ B'.Perm B ∧ P'.Perm Pp ∧ sortedS (nms B') = true ∧ Full B' Qp' ∧ Full B' Qc' ∧
  (∀ x ∈ nms B, val0 Qp' x = val0 Qp x) ∧ (∀ x ∈ nms B, val0 Qc' x = val0 Qc x) ∧ ∀ x ∈ nms B, 0 ≤ val0 Qp x ∧ 0 ≤ val0 Qc x
theorem StOf.same {CS C : Addr} {H H' : Hp} {s : Addr} {B : Br} {Pp : Pi} {Qp Qc : Br} (h : StOf CS C H s B Pp Qp Qc) (sm : Same H H') : StOf CS C H' s B Pp Qp Qc := by
  obtain ⟨B', P', Qp', Qc', a, r⟩ := h
  exact ⟨B', P', Qp', Qc', a.same sm, r⟩
/-- the numbers alone count -/
theorem StOf.alike {CS C : Addr} {H : Hp} {s : Addr} {B : Br} {Pp : Pi} {Qp Qc Qc2 : Br} (h : StOf CS C H s B Pp Qp Qc) (e : ∀ x ∈ nms B, val0 Qc x = val0 Qc2 x) : StOf CS C H s B Pp Qp Qc2 := by
  obtain ⟨B', P', Qp', Qc', a, g, pB, pP, so, f1, f2, v1, v2, nn⟩ := h
  exact ⟨B', P', Qp', Qc', a, g, pB, pP, so, f1, f2, v1, fun x hx => (v2 x hx).trans (e x hx), fun x hx => ⟨(nn x hx).1, by rw [← e x hx]; exact (nn x hx).2⟩⟩
theorem sf_inj {n d1 d2 n' d1' d2' : Addr} (h : sf n d1 d2 = sf n' d1' d2') : n = n' ∧ d1 = d1' ∧ d2 = d2' := by
  have e1 := sf_n n d1 d2
  have e2 := sf_p n d1 d2
  have e3 := sf_c n d1 d2
  rw [h, sf_n] at e1
  rw [h, sf_p] at e2
  rw [h, sf_c] at e3
  cases e1
  cases e2
  cases e3
  exact ⟨rfl, rfl, rfl⟩
theorem nf_inj {d1 d1' : Addr} {d2 d2' : Dd} (h : nf d1 d2 = nf d1' d2') : d1 = d1' ∧ d2 = d2' := by
  have e1 := nf_b d1 d2
  have e2 := nf_w d1 d2
  have e3 := nf_o d1 d2
  have e4 := nf_i d1 d2
  rw [h, nf_b] at e1
  rw [h, nf_w] at e2
  rw [h, nf_o] at e3
  rw [h, nf_i] at e4
  obtain ⟨a, b, c⟩ := d2
  obtain ⟨a', b', c'⟩ := d2'
  cases e1
  cases e2
  cases e3
  cases e4
  exact ⟨rfl, rfl⟩
/-- none of the stand's own dicts is that one -/
def Off (CS C : Addr) (H : Hp) (s a : Addr) : Prop := ∃ dx n d1 d2 dxn e1 e2, H s = some (.ins CS dx (sf n d1 d2)) ∧ H n = some (.ins C dxn (nf e1 e2)) ∧ a ≠ d1 ∧ a ≠ d2 ∧ a ≠ e1 ∧ a ≠ e2.o ∧ a ≠ e2.i
theorem Off.keep {CS C : Addr} {H H' : Hp} {s a : Addr} (h : Off CS C H s a) (k : ∀ x C dx fs, H x = some (.ins C dx fs) → H' x = some (.ins C dx fs)) : Off CS C H' s a := by
  obtain ⟨dx, n, d1, d2, dxn, e1, e2, a1, a2, r⟩ := h
  exact ⟨dx, n, d1, d2, dxn, e1, e2, k _ _ _ _ a1, k _ _ _ _ a2, r⟩
theorem Off.same {CS C : Addr} {H H' : Hp} {s a : Addr} (h : Off CS C H s a) (k : Same H H') : Off CS C H' s a := h.keep fun x _ _ _ e => k x _ e
/-- that one may be anything, and the stand stands -/
theorem StOf.lock {CS C : Addr} {H : Hp} {s a : Addr} {B : Br} {Pp : Pi} {Qp Qc : Br} {u : List (Key × V)} (S : StOf CS C H s B Pp Qp Qc) (f : Off CS C H s a) (ha : H a = some (.dK u)) (x : HO) : StOf CS C (upd H a x) s B Pp Qp Qc ∧ Off CS C (upd H a x) s a := by
  obtain ⟨B', P', Qp', Qc', SA, r⟩ := S
  obtain ⟨dx, n, d1, d2, hs, N, h1, h2⟩ := SA.at_
  obtain ⟨dxn, e1, e2, hn, h3, h4, h5, h6⟩ := N.at_
  obtain ⟨dx', n', d1', d2', dxn', e1', e2', f1, f2, f3, f4, f5, f6, f7⟩ := id f
  rw [hs] at f1
  injection f1 with f1
  injection f1 with _ _ f1
  obtain ⟨rfl, rfl, rfl⟩ := sf_inj f1
  rw [hn] at f2
  injection f2 with f2
  injection f2 with _ _ f2
  obtain ⟨rfl, rfl⟩ := nf_inj f2
  have k : ∀ {y : Addr} {o : HO}, H y = some o → (∀ v, o ≠ .dK v) → (upd H a x) y = some o := fun {y o} e no => by
    have : y ≠ a := fun ey => by
      subst ey
      rw [ha] at e
      exact no u (Option.some.inj e).symm
    rw [upd_ne this]; exact e
  refine ⟨⟨B', P', Qp', Qc', ⟨dx, n, d1, d2, k hs (fun v e => by cases e), ⟨dxn, e1, e2, k hn (fun v e => by cases e), ?_, k h4 (fun v e => by cases e), h5.keep (fun x e => by rw [upd_ne (Ne.symm f6)]; exact e) (fun b oq xs e => k e (fun v e => by cases e)) (fun b xs e => k e (fun v e => by cases e)), h6.keep (fun x e => by rw [upd_ne (Ne.symm f7)]; exact e) (fun b oq xs e => k e (fun v e => by cases e)) (fun b xs e => k e (fun v e => by cases e))⟩, ?_, ?_⟩, r⟩, f.keep fun y _ _ _ e => k e (fun v e => by cases e)⟩
  · rw [upd_ne (Ne.symm f5)]; exact h3
  · rw [upd_ne (Ne.symm f3)]; exact h1
  · rw [upd_ne (Ne.symm f4)]; exact h2
/-! what the six of spills promise, as the law asks it -/
def spMost (CS C : Addr) : Sp := fun vs H Q _ => ∃ (s : Addr) (B : Br) (Pp : Pi) (Qp Qc : Br) (z : Str), vs = [.ref s, .str z] ∧ StOf CS C H s B Pp Qp Qc ∧ Good B Pp ∧ z ∈ nms B ∧ ∀ H', Same H H' → Q (.int (mostOf B Pp Qp Qc z)) H'
def spCan (CS C : Addr) : Sp := fun vs H Q _ => ∃ (s : Addr) (B : Br) (Pp : Pi) (Qp Qc : Br) (z : Str) (t : Int), vs = [.ref s, .str z, .int t] ∧ StOf CS C H s B Pp Qp Qc ∧ Good B Pp ∧ z ∈ nms B ∧ 1 ≤ t ∧ ∀ H', Same H H' → Q (.bl (decide (t ≤ mostOf B Pp Qp Qc z))) H'
def spSpilling (CS C : Addr) : Sp := fun vs H Q _ => ∃ (s : Addr) (B : Br) (Pp : Pi) (Qp Qc : Br), vs = [.ref s] ∧ StOf CS C H s B Pp Qp Qc ∧ Good B Pp ∧
  ∀ (H' : Hp) (r : Addr) (ys : List Str), Same H H' → H r = none → ys.Perm (nms B) → sortedS ys = true → H' r = some (.lst ((ys.filter fun z => decide (mostOf B Pp Qp Qc z > 0)).map V.str)) → Q (.ref r) H'
def spAtRest (CS C : Addr) : Sp := fun vs H Q _ => ∃ (s : Addr) (B : Br) (Pp : Pi) (Qp Qc : Br), vs = [.ref s] ∧ StOf CS C H s B Pp Qp Qc ∧ Good B Pp ∧ ∀ H', Same H H' → Q (.bl (decide (∀ z ∈ nms B, ¬ mostOf B Pp Qp Qc z > 0))) H'
def spSpilled (CS C : Addr) : Sp := fun vs H Q _ => ∃ (s : Addr) (B : Br) (Pp : Pi) (Qp Qc : Br) (z : Str) (t : Int), vs = [.ref s, .str z, .int t] ∧ StOf CS C H s B Pp Qp Qc ∧ Good B Pp ∧ z ∈ nms B ∧ 1 ≤ t ∧ t ≤ mostOf B Pp Qp Qc z ∧
  ∀ (H' : Hp) (r : Addr), Same H H' → H r = none → (∀ Qc2 : Br, (∀ x ∈ nms B, val0 Qc2 x = val0 Qc x + if x = z then t else 0) → StOf CS C H' r B Pp Qp Qc2) → (∀ a, Off CS C H s a → H a ≠ none → Off CS C H' r a) → Q (.ref r) H'
def spSoaked (CS C : Addr) : Sp := fun vs H Q _ => ∃ (s : Addr) (B : Br) (Pp : Pi) (Qp Qc : Br), vs = [.ref s] ∧ StOf CS C H s B Pp Qp Qc ∧ Good B Pp ∧ ∀ H', Same H H' → Q (.int (soakOf B Pp Qc)) H'
end Nl
end
section
set_option maxHeartbeats 4000000
namespace Nl
open PySem PySem.Spec PyProof.Rows L2 Nt
theorem mostOf_nonneg (B : Br) (Pp : Pi) (Qp Qc : Br) (z : Str) : 0 ≤ mostOf B Pp Qp Qc z := by
  unfold mostOf
  split <;> omega
/-- what the pot's turns leave as it is -/
theorem Kp.keep {p x : Addr} {H H' : Hp} {o : HO} (hP : PotAt H p) (k : Kp p H H') (h : H x = some o) (no : ∀ l, o ≠ .lst l) : H' x = some o := by
  obtain ⟨a, b, hp, _⟩ := hP
  refine k x o (fun e => ?_) h
  subst e
  rw [hp] at h
  exact no _ (Option.some.inj h).symm
theorem NetAt.kp {C p n : Addr} {H H' : Hp} {B : Br} {Pp : Pi} (hP : PotAt H p) (k : Kp p H H') (h : NetAt C H n B Pp) : NetAt C H' n B Pp := by
  obtain ⟨dx, d1, d2, a, b, c, e, f⟩ := h
  have sd : ∀ {d : Addr} {g : Str → List (Str × Int)} {l : List Str}, SideAt H d g l → SideAt H' d g l := fun {d g l} S => by
    obtain ⟨ls, e1, _⟩ := id S
    exact S.keep (fun x e => by rw [e1] at e; cases e; exact k.keep hP e1 (fun v e => by cases e)) (fun b oq xs e => k.keep hP e (fun v e => by cases e)) (fun b xs e => k.keep hP e (fun v e => by cases e))
  exact ⟨dx, d1, d2, k.keep hP a (fun l e => by cases e), k.keep hP b (fun l e => by cases e), k.keep hP c (fun l e => by cases e), sd e, sd f⟩
theorem StandAt.kp {CS C p s : Addr} {H H' : Hp} {B : Br} {Pp : Pi} {Qp Qc : Br} (hP : PotAt H p) (k : Kp p H H') (h : StandAt CS C H s B Pp Qp Qc) : StandAt CS C H' s B Pp Qp Qc := by
  obtain ⟨dx, n, d1, d2, a, b, c, d⟩ := h
  exact ⟨dx, n, d1, d2, k.keep hP a (fun l e => by cases e), b.kp hP k, k.keep hP c (fun l e => by cases e), k.keep hP d (fun l e => by cases e)⟩
theorem StOf.kp {CS C p s : Addr} {H H' : Hp} {B : Br} {Pp : Pi} {Qp Qc : Br} (hP : PotAt H p) (k : Kp p H H') (h : StOf CS C H s B Pp Qp Qc) : StOf CS C H' s B Pp Qp Qc := by
  obtain ⟨B', P', Qp', Qc', a, r⟩ := h
  exact ⟨B', P', Qp', Qc', a.kp hP k, r⟩
theorem Kp.free {p x : Addr} {H H' : Hp} (hP : PotAt H' p) (k : Kp p H H') (n : H' x = none) : H x = none := by
  cases e : H x with
  | none => rfl
  | some o =>
    have := k x o (hP.ne n) e
    rw [n] at this; cases this
/-! ### pairs made to a dict -/
theorem paired_of {K : PySem.W.Frag} {H : Hp} : ∀ {as : List Addr} {l : List (Str × Int)}, PairsAt H as l → Paired (fun p (kv : Key × V) => SqT K H p [kV kv.1, kv.2]) as (bk l)
  | [], [], _ => .nil
  | [], x :: l, h => absurd h.1 (by simp)
  | a :: as, [], h => absurd h.1 (by simp)
  | a :: as, x :: l, h => by
    obtain ⟨q, e1, e2⟩ := h.2 0 x rfl
    have e1' : a = q := Option.some.inj e1
    subst e1'
    refine .cons (SqT.of e2) (paired_of ⟨Nat.succ.inj h.1, fun i p e => ?_⟩)
    obtain ⟨q, f1, f2⟩ := h.2 (i + 1) p e
    exact ⟨q, f1, f2⟩
theorem merge_bk : ∀ (l m : Br), (nms (m ++ l)).Nodup → mergeK (bk m) (bk l) = bk (m ++ l)
  | [], m, _ => by rw [List.append_nil]; rfl
  | x :: l, m, nd => by
    have fr : x.1 ∉ nms m := by
      rw [nms_append, List.nodup_append] at nd
      exact fun h => nd.2.2 x.1 h x.1 (by show x.1 ∈ x.1 :: nms l; exact List.mem_cons_self) rfl
    show mergeK (putK (bk m) (Sum.inr x.1) (.int x.2)) (bk l) = _
    rw [putK_bk fr, merge_bk l (m ++ [(x.1, x.2)]) (by rw [List.append_assoc]; exact nd), List.append_assoc]
    rfl
theorem eqv_strs {l : List Str} (h : ∀ z ∈ l, Sm 25 z) : PyData.eqv (.list (l.map PyData.str)) (.list (l.map PyData.str)) = true := SeqAt.eqv_refl _ (SeqAt.canLay_of_shaped (shaped_strs h))
theorem eqv_nil (l : List Str) : PyData.eqv (.list (l.map PyData.str)) (.list []) = l.isEmpty := by
  cases l <;> simp [PyData.eqv, PyData.eqvAll]
theorem shaped_nil : SeqAt.shaped (.list []) = true := by simp [SeqAt.shaped, PyData.canLay0, PyData.canLayAll0, PyData.depth, PyData.depthAll]
theorem all_trues : ∀ n : Nat, (List.replicate n true).all id = true
  | 0 => rfl
  | n + 1 => by rw [List.replicate_succ]; simp [all_trues n]
/-- all that is no list stays -/
def NL (H H' : Hp) : Prop := ∀ x o, H x = some o → (∀ q, o ≠ .lst q) → H' x = some o
theorem NL.trans {H H1 H2 : Hp} (a : NL H H1) (b : NL H1 H2) : NL H H2 := fun x o e n => b x o (a x o e n) n
theorem NL.of_same {H H' : Hp} (s : Same H H') : NL H H' := fun x o e _ => s x o e
theorem NL.of_kp {p : Addr} {H H' : Hp} (hP : PotAt H p) (k : Kp p H H') : NL H H' := fun x o e n => k.keep hP e n
theorem NL.lst {H : Hp} {l : Addr} {xs ys : List V} (h : H l = some (.lst xs)) : NL H (upd H l (.lst ys)) := fun x o e n => by
  have nx : x ≠ l := fun z => by subst z; rw [h] at e; exact n _ (Option.some.inj e).symm
  rw [upd_ne nx]; exact e
theorem NetAt.nl {C n : Addr} {H H' : Hp} {B : Br} {Pp : Pi} (k : NL H H') (h : NetAt C H n B Pp) : NetAt C H' n B Pp := by
  obtain ⟨dx, d1, d2, a, b, c, e, f⟩ := h
  have sd : ∀ {d : Addr} {g : Str → List (Str × Int)} {l : List Str}, SideAt H d g l → SideAt H' d g l := fun {d g l} S => by
    obtain ⟨ls, e1, _⟩ := id S
    exact S.keep (fun x e => by rw [e1] at e; cases e; exact k _ _ e1 (fun v e => by cases e)) (fun b oq xs e => k _ _ e (fun v e => by cases e)) (fun b xs e => k _ _ e (fun v e => by cases e))
  exact ⟨dx, d1, d2, k _ _ a (fun l e => by cases e), k _ _ b (fun l e => by cases e), k _ _ c (fun l e => by cases e), sd e, sd f⟩
theorem StOf.nl {CS C s : Addr} {H H' : Hp} {B : Br} {Pp : Pi} {Qp Qc : Br} (k : NL H H') (h : StOf CS C H s B Pp Qp Qc) : StOf CS C H' s B Pp Qp Qc := by
  obtain ⟨B', P', Qp', Qc', ⟨dx, n, d1, d2, a, b, c, d⟩, r⟩ := h
  exact ⟨B', P', Qp', Qc', ⟨dx, n, d1, d2, k _ _ a (fun l e => by cases e), b.nl k, k _ _ c (fun l e => by cases e), k _ _ d (fun l e => by cases e)⟩, r⟩
theorem NL.dk {H H' : Hp} {x : Addr} {u : List (Key × V)} (k : NL H H') (h : H x = some (.dK u)) : H' x = some (.dK u) := k _ _ h fun l e => by cases e
theorem NL.dt {H H' : Hp} {x : Addr} {u : List (List Key × V)} (k : NL H H') (h : H x = some (.dT u)) : H' x = some (.dT u) := k _ _ h fun l e => by cases e
/-- the stands that came ahead, with their counts -/
def Ah (CS C a : Addr) (B : Br) (Pp : Pi) (Qp : Br) (H : Hp) (ts : List Addr) : Prop := ∀ t ∈ ts, ∃ (s d : Addr) (Qc : Br), H t = some (.tup [.ref s, .ref d]) ∧ H d = some (.dK (bk Qc)) ∧ a ≠ d ∧ StOf CS C H s B Pp Qp Qc
theorem Ah.nl {CS C a : Addr} {B : Br} {Pp : Pi} {Qp : Br} {H H' : Hp} {ts : List Addr} (k : NL H H') (h : Ah CS C a B Pp Qp H ts) : Ah CS C a B Pp Qp H' ts := fun t m => by
  obtain ⟨s, d, Qc, e1, e2, e3, e4⟩ := h t m
  exact ⟨s, d, Qc, k _ _ e1 (fun l e => by cases e), k.dk e2, e3, e4.nl k⟩
/-! ### one number put into a dict -/
def putB (Q : Br) (z : Str) (v : Int) : Br := if z ∈ nms Q then Q.map (fun p => if p.1 = z then (p.1, v) else p) else Q ++ [(z, v)]
theorem putK_putB (Q : Br) (z : Str) (v : Int) : putK (bk Q) (Sum.inr z : Key) (.int v) = bk (putB Q z v) := by
  unfold putB
  by_cases h : z ∈ nms Q
  · rw [if_pos h]
    unfold putK
    have ha : ((bk Q).any fun kv => decide (kv.1 = (Sum.inr z : Key))) = true := by
      obtain ⟨p, hp, e⟩ := List.mem_map.mp h
      exact List.any_eq_true.mpr ⟨(Sum.inr p.1, .int p.2), List.mem_map.mpr ⟨p, hp, rfl⟩, decide_eq_true (by rw [show p.1 = z from e])⟩
    rw [if_pos ha]
    unfold bk
    rw [List.map_map, List.map_map]
    refine List.map_congr_left fun p _ => ?_
    show (if (Sum.inr p.1 : Key) = Sum.inr z then ((Sum.inr p.1 : Key), V.int v) else (Sum.inr p.1, V.int p.2)) = ((Sum.inr (if p.1 = z then (p.1, v) else p).1 : Key), V.int (if p.1 = z then (p.1, v) else p).2)
    by_cases e : p.1 = z
    · rw [if_pos (by rw [e]), if_pos e]
    · rw [if_neg (fun x => e (Sum.inr.inj x)), if_neg e]
  · rw [if_neg h, putK_bk h]
theorem putB_nms (Q : Br) (z : Str) (v : Int) : nms (putB Q z v) = if z ∈ nms Q then nms Q else nms Q ++ [z] := by
  unfold putB
  by_cases h : z ∈ nms Q
  · rw [if_pos h, if_pos h]
    unfold nms
    rw [List.map_map]
    refine List.map_congr_left fun p _ => ?_
    show (if p.1 = z then (p.1, v) else p).1 = p.1
    split <;> rfl
  · rw [if_neg h, if_neg h, nms_append]; rfl
theorem putB_nd {Q : Br} {z : Str} {v : Int} (nd : (nms Q).Nodup) : (nms (putB Q z v)).Nodup := by
  rw [putB_nms]
  by_cases h : z ∈ nms Q
  · rw [if_pos h]; exact nd
  · rw [if_neg h]
    exact List.nodup_append.mpr ⟨nd, by simp, fun x hx y hy e => by
      have e2 : y = z := by simpa using hy
      exact h (by rw [← e2, ← e]; exact hx)⟩
theorem putB_val (Q : Br) (z : Str) (v : Int) (x : Str) : val0 (putB Q z v) x = if x = z then v else val0 Q x := by
  have h := valV_put (bk Q) (Sum.inr z : Key) (Sum.inr x) (.int v)
  rw [putK_putB, valV_bk, valV_bk] at h
  unfold val0
  by_cases e : x = z
  · rw [if_pos e]
    rw [if_pos (by rw [e])] at h
    cases g : getB (putB Q z v) x with
    | none => rw [g] at h; cases h
    | some c =>
      rw [g] at h
      have := Option.some.inj h
      injection this
  · rw [if_neg e]
    rw [if_neg (fun y => e (Sum.inr.inj y))] at h
    cases g : getB (putB Q z v) x with
    | none =>
      rw [g] at h
      cases g2 : getB Q x with
      | none => rfl
      | some c => rw [g2] at h; cases h
    | some c =>
      rw [g] at h
      cases g2 : getB Q x with
      | none => rw [g2] at h; cases h
      | some c2 =>
        rw [g2] at h
        have h2 : V.int c = V.int c2 := Option.some.inj h
        injection h2 with h3
theorem val0_nonneg {Q : Br} (h : ∀ p ∈ Q, 0 ≤ p.2) (x : Str) : 0 ≤ val0 Q x := by
  unfold val0
  cases g : getB Q x with
  | none => exact Int.le_refl _
  | some c => exact h _ (getB_mem g)
/-- what Stand makes of a net and two tables -/
theorem stOf_new {CS C : Addr} {H : Hp} {s : Addr} {B B' : Br} {Pp P' : Pi} {Qp Qc : Br} (SA : StandAt CS C H s B' P' (fill B' Qp) (fill B' Qc)) (good : Good B Pp) (pB : B'.Perm B) (pP : P'.Perm Pp) (so : sortedS (nms B') = true) (np : ∀ p ∈ Qp, 0 ≤ p.2) (nc : ∀ p ∈ Qc, 0 ≤ p.2) :
    StOf CS C H s B Pp Qp Qc := by
  have g' : Good B' P' := good.perm pB.symm pP.symm
  have pm : (nms B').Perm (nms B) := pB.map Prod.fst
  exact ⟨B', P', _, _, SA, g', pB, pP, so, fill_full _ _, fill_full _ _, fun x hx => val0_fill g'.wf.nb (pm.mem_iff.mpr hx), fun x hx => val0_fill g'.wf.nb (pm.mem_iff.mpr hx), fun x _ => ⟨val0_nonneg np x, val0_nonneg nc x⟩⟩
end Nl
end
section
set_option maxHeartbeats 1000000
namespace Nl
open PySem PySem.Spec PyProof.Rows L2 Nt
section
variable {B B' : Br} {Pp P' : Pi} {Qp Qc Qp' Qc' : Br}
theorem water_same (g' : Good B' P') (pB : B'.Perm B) (pP : P'.Perm Pp) (v1 : ∀ x ∈ nms B, val0 Qp' x = val0 Qp x) (v2 : ∀ x ∈ nms B, val0 Qc' x = val0 Qc x) {z : Str} (mz : z ∈ nms B) : waterOf B' P' Qp' Qc' z = waterOf B Pp Qp Qc z := by
  have pm : (nms B').Perm (nms B) := pB.map Prod.fst
  exact waterOf_same pB g'.wf.nb pP (pm.mem_iff.mpr mz) (fun r hr => (g'.wf.rp r hr).1) (fun x hx => v1 x (pm.mem_iff.mp hx)) fun x hx => v2 x (pm.mem_iff.mp hx)
theorem most_same (g' : Good B' P') (pB : B'.Perm B) (pP : P'.Perm Pp) (v1 : ∀ x ∈ nms B, val0 Qp' x = val0 Qp x) (v2 : ∀ x ∈ nms B, val0 Qc' x = val0 Qc x) {z : Str} (mz : z ∈ nms B) : mostOf B' P' Qp' Qc' z = mostOf B Pp Qp Qc z := by
  unfold mostOf
  rw [water_same g' pB pP v1 v2 mz, val0_perm pB g'.wf.nb z]
theorem soak_same (pB : B'.Perm B) (pP : P'.Perm Pp) (v2 : ∀ x ∈ nms B, val0 Qc' x = val0 Qc x) : soakOf B' P' Qc' = soakOf B Pp Qc := by
  unfold soakOf
  rw [perm_sum (pB.map fun p => (p.2 - outW P' p.1) * val0 Qc' p.1)]
  congr 1
  refine List.map_congr_left fun p hp => ?_
  rw [outW_perm pP, v2 p.1 (List.mem_map.mpr ⟨p, hp, rfl⟩)]
end
/-- a stand made anew of a stand's own net and what's poured, one count more often -/
theorem stOf_next {CS C : Addr} {H : Hp} {s : Addr} {B B' : Br} {Pp P' : Pi} {Qp Qc Qp' Qc' Qd Qe Qc2 : Br} {z : Str} {t : Int} (SA : StandAt CS C H s B' P' (fill B' Qd) (fill B' Qe)) (g' : Good B' P') (pB : B'.Perm B) (pP : P'.Perm Pp) (so : sortedS (nms B') = true)
    (v1 : ∀ x ∈ nms B, val0 Qp' x = val0 Qp x) (v2 : ∀ x ∈ nms B, val0 Qc' x = val0 Qc x) (nn : ∀ x ∈ nms B, 0 ≤ val0 Qp x ∧ 0 ≤ val0 Qc x) (t0 : 0 ≤ t)
    (vd : ∀ x ∈ nms B, val0 Qd x = val0 Qp' x) (ve : ∀ x ∈ nms B, val0 Qe x = val0 Qc' x + if x = z then t else 0) (h2 : ∀ x ∈ nms B, val0 Qc2 x = val0 Qc x + if x = z then t else 0) : StOf CS C H s B Pp Qp Qc2 := by
  have pm : (nms B').Perm (nms B) := pB.map Prod.fst
  refine ⟨B', P', _, _, SA, g', pB, pP, so, fill_full _ _, fill_full _ _, fun x hx => ?_, fun x hx => ?_, fun x hx => ⟨(nn x hx).1, ?_⟩⟩
  · rw [val0_fill g'.wf.nb (pm.mem_iff.mpr hx), vd x hx, v1 x hx]
  · rw [val0_fill g'.wf.nb (pm.mem_iff.mpr hx), ve x hx, h2 x hx, v2 x hx]
  · rw [h2 x hx]
    have := (nn x hx).2
    split <;> omega
end Nl
end
section
set_option maxHeartbeats 2000000
namespace Rl
open PySem PySem.W PySem.Calls PyProof.Rows PyProof.V PySem.Spec
section
variable {K : Type} [DecidableEq K] {prog : Program} {w : World} {knd : HeapKind prog w K} {A : Around} {E : Value → Shared → Prop} {s : Shared}
/-- two dicts with tuples as keys, all of the one found in the other -/
theorem pairsH {nm : String} {c d : Addr} {xs ys : List (K × Addr × Value)} {Q : Bool → Shared → Prop} (hc : (c == sysModules) = false) (hd : (d == sysModules) = false) (dc : s.heap.DictOfH knd c xs) (dd : s.heap.DictOfH knd d ys) (hu : knd.room A)
    (hl : xs.length = ys.length) (hits : ∀ x ∈ xs, ∃ (j : Nat) (p : Addr × Value), ys[j]? = some (x.1, p) ∧ SeqAt.EqAt A s x.2.2 p.2 true) (h : Q true s) : wpAny (model prog w) A (Builtin.Dict.samePairs nm c d) Q E s := by
  obtain ⟨o1, e1, n1, g1, _, t1, m1, i1, u1⟩ := dc
  obtain ⟨o2, e2, n2, g2, _, t2, m2, i2, u2⟩ := dd
  have z1 : e1.size = xs.length := size_of_entries m1
  have z2 : e2.size = ys.length := size_of_entries m2
  unfold Builtin.Dict.samePairs Builtin.Dict.showsAll
  rw [if_neg (by rw [hc]; exact Bool.false_ne_true), if_neg (by rw [hd]; exact Bool.false_ne_true)]
  refine wpAny_bind (wpAny_pure (wpAny_bind (wpAny_pure (wpAny_bind (wpAny_dictEntries g1 t1 ?_)))))
  dsimp only
  refine wpAny_bind (wpAny_dictEntries g2 t2 ?_)
  have z12 : e1.size = e2.size := by omega
  rw [if_neg (by rw [z12]; simp)]
  refine wpAny_bind (wpAny_dictEpoch g1 t1 (wpAny_bind ?_))
  rw [Std.Legacy.Range.forIn_eq_forIn_range']
  simp only [Std.Legacy.Range.size, Nat.sub_zero, Nat.add_sub_cancel, Nat.div_one]
  refine wpAny_forIn_list _ (fun more q t => t = s ∧ q = (none, ()) ∧ ∃ i, more = List.range' i (e1.size - i) ∧ i ≤ e1.size) _ ?_ ?_ _ _ ⟨rfl, rfl, 0, by simp, Nat.zero_le _⟩
  · rintro v more q t ⟨rfl, rfl, i, hr, hi⟩
    have lt : i < e1.size := by
      rcases Nat.lt_or_ge i e1.size with z | z
      · exact z
      · rw [Nat.sub_eq_zero_of_le z] at hr; simp at hr
    obtain ⟨rfl, hm⟩ : v = i ∧ more = List.range' (i + 1) (e1.size - (i + 1)) := by
      rw [show e1.size - i = (e1.size - (i + 1)) + 1 by omega, List.range'_succ] at hr
      injection hr with a1 a2
      exact ⟨a1, a2⟩
    have lx : v < xs.length := by omega
    have hx : xs[v]? = some xs[v] := List.getElem?_eq_getElem lx
    have he : e1[v]? = some (entryOfKey knd xs[v]) := by rw [entry_at m1 v, hx]; rfl
    obtain ⟨j, p, hj, heq⟩ := hits xs[v] (List.getElem_mem lx)
    refine wpAny_bind (wpAny_dictEntries g1 t1 ?_)
    rw [he]
    show wpAny _ _ (holding [Value.ref xs[v].2.1, xs[v].2.2] _ >>= _) _ _ _
    refine wpAny_bind (wpAny_holding (wpAny_bind (wpAny_dictFind_heap hu (i1 _ (List.getElem_mem lx)) g2 t2 m2 i2 u2 (fun no => absurd hj (no j p)) fun j' p' hj' => ?_)))
    have ej : j' = j := idxH_unique u2 hj' hj
    subst ej
    rw [hj] at hj'
    have ep : p = p' := congrArg Prod.snd (Option.some.inj hj')
    subst ep
    refine wpAny_bind (wpAny_dictEntries g2 t2 ?_)
    rw [entry_at m2 j', hj]
    refine wpAny_holding (heq prog w _ _ ?_)
    show wpAny _ _ (if (!true) = true then _ else _) _ _ _
    rw [if_neg (by decide)]
    refine wpAny_bind (wpAny_dictEpoch g1 t1 ?_)
    rw [if_neg (by simp)]
    exact wpAny_pure ⟨rfl, rfl, v + 1, hm, lt⟩
  · rintro q t ⟨rfl, rfl, i, hr, hi⟩
    exact wpAny_pure h
/-- == of such two -/
theorem eqH {c d : Addr} {xs ys : List (K × Addr × Value)} {Q : Value → Shared → Prop} (hc : (c == sysModules) = false) (hd : (d == sysModules) = false) (dc : s.heap.DictOfH knd c xs) (dd : s.heap.DictOfH knd d ys) (hu : knd.room A.in1) (hv : A.units < cLine)
    (hl : xs.length = ys.length) (hits : ∀ x ∈ xs, ∃ (j : Nat) (p : Addr × Value), ys[j]? = some (x.1, p) ∧ SeqAt.EqAt A.in1 s x.2.2 p.2 true) (h : Q (.bool true) s) : wpAny (model prog w) A (compareOp .Eq (.ref c) (.ref d)) Q E s := by
  refine wpAny_richCompare_same_room (op := .Eq) dc.typeIs dd.typeIs PySem.F.slot_dict_eq (wpAny_call_entry PySem.F.slot_dict_eq dc.typeIs PySem.F.entry_dict_eq ?_ (PySem.F.args_dict_eq_2 _ _)) hv
  show wpAny _ _ (Builtin.Dict.dictSlotArgs "__eq__" ⟨[.ref c, .ref d], []⟩ >>= _) _ _ s
  refine wpAny_bind ?_
  unfold Builtin.Dict.dictSlotArgs
  refine wpAny_bind (wpAny_notOrdered_dict dc.typeIs ?_)
  show wpAny _ _ (pure (Value.ref c, Value.ref d)) _ _ s
  refine wpAny_pure (wpAny_bind (wpAny_isInstance (T := "dict") dd.typeIs PySem.F.sub_dict_dict ?_))
  simp only [Bool.not_true, Bool.false_eq_true, if_false]
  refine wpAny_bind (wpAny_pure (wpAny_bind (wpAny_pure (wpAny_bind (pairsH hc hd dc dd hu hl hits ?_)))))
  refine wpAny_pure ⟨_, rfl, ?_, ?_⟩
  · exact fun z => nomatch z
  · simpa using h
end
end Rl
namespace Rl
open PySem PySem.Spec PyProof.Rows L2
section
variable {X : Cx}
def rEqDT : R2 := fun x y H Q => ∃ (c d : Addr) (ks ls : List (List L2.Key × V)), x = .ref c ∧ y = .ref d ∧ H c = some (.dT ks) ∧ H d = some (.dT ls) ∧ ks.length = ls.length ∧ (∀ p ∈ ks, valV ls p.1 = some p.2 ∧ flatB p.2 = true) ∧ Q (.bl true) H
theorem paired_mem {α β : Type} {R : α → β → Prop} : ∀ {l : List α} {m : List β}, Paired R l m → ∀ y ∈ m, ∃ x ∈ l, R x y
  | _, _, .nil, y, h => (List.not_mem_nil h).elim
  | _, _, .cons a t, y, h => by
    rcases List.mem_cons.mp h with rfl | h
    · exact ⟨_, List.mem_cons_self, a⟩
    · obtain ⟨x, hx, r⟩ := paired_mem t y h
      exact ⟨x, List.mem_cons_of_mem _ hx, r⟩
theorem op_eq_dictT (hu : X.A.units + 1 < cLine) : OpR X (compareOp .Eq) rEqDT := by
  intro pins s σ H x y v u Q I rx ry h
  obtain ⟨c, d, ks, ls, rfl, rfl, ec, ed, hl, hp, q⟩ := h
  obtain rfl : v = Value.ref c := rx
  obtain rfl : u = Value.ref d := ry
  obtain ⟨_, yc, xs, rc, dc⟩ := dt_of I.hok ec
  obtain ⟨_, yd, ys, rd, dd⟩ := dt_of I.hok ed
  refine eqH (knd := tupleKind (mixKind X.prog X.w)) yc yd dc dd (tupleKind_room_in1 hu) (by omega) (by rw [← Paired.length rc, ← Paired.length rd]; exact hl) (fun e he => ?_) (fin_bl I q rfl)
  obtain ⟨p, mp, r1, r2, r3⟩ := paired_mem rc e he
  obtain ⟨hv, hf⟩ := hp p mp
  have rv := rd.val p.1
  rw [hv] at rv
  cases ea : atKey ys p.1 with
  | none => rw [ea] at rv; exact (show False from rv).elim
  | some t =>
    rw [ea] at rv
    have rt : RelV p.2 t.2 := rv
    obtain ⟨o, es, ep, _, _, _, _, _, nd⟩ := id dd
    have hm : ∃ j : Nat, ys[j]? = some (p.1, t) := by
      unfold atKey at ea
      cases ef : ys.find? fun z => decide (z.1 = p.1) with
      | none => simp [ef] at ea
      | some z =>
        have hz := List.mem_of_find?_eq_some ef
        have hz1 : z.1 = p.1 := by simpa using List.find?_some ef
        obtain ⟨j, hj, ej⟩ := List.mem_iff_getElem.mp hz
        refine ⟨j, ?_⟩
        rw [List.getElem?_eq_getElem hj, ej]
        have : z.2 = t := by simpa [ef] using ea
        rw [← this, ← hz1]
    obtain ⟨j, hj⟩ := hm
    exact ⟨j, t, by rw [← r1]; exact hj, eqAt_same r3 rt hf⟩
end
end Rl
end
section
set_option maxHeartbeats 2000000
namespace Nl
open PySem PySem.Spec PyProof.Rows L2 Nt
section
variable {P : Program} {w : World} {K : PySem.W.Frag} {mg : Str → Option Value} {base : Heap}
/-- two nets alike -/
def NetsEq (C : Addr) (n n' : Addr) (H : Hp) : Prop := ∃ (B : Br) (Pp : Pi) (B2 : Br) (P2 : Pi), NetAt C H n B Pp ∧ NetAt C H n' B2 P2 ∧ B.Perm B2 ∧ Pp.Perm P2 ∧ (nms B).Nodup ∧ (Pp.map Prod.fst).Nodup
theorem bk_in {B : Br} {p : Key × V} (h : p ∈ bk B) : ∃ q ∈ B, p = (Sum.inr q.1, V.int q.2) := by
  obtain ⟨q, hq, e⟩ := List.mem_map.mp h
  exact ⟨q, hq, e.symm⟩
theorem pt_in {S : Pi} {p : List Key × V} (h : p ∈ pt S) : ∃ q ∈ S, p = (Rl.pk q.1, V.int q.2) := by
  obtain ⟨q, hq, e⟩ := List.mem_map.mp h
  exact ⟨q, hq, e.symm⟩
theorem scNEq : FnScope ["self", "other"] ["self", "other"] (defScope mNet_eq) := ⟨rfl, rfl, rfl, by decide +kernel, rfl, by decide +kernel, by decide +kernel⟩
theorem ok_nEq {f C : Addr} {fd : FuncData} {k : Nat} (F : Fun K "__eq__" "Net.__eq__" mNet_eq f fd) (T : TxN K mg C) (IC : C8.InsC K C) (mi : mg "isinstance" = none) : FnOk P w K mg base CX0 (k + 1) f fd ["self", "other"] (spEq (NetsEq C)) := by
  refine F.ok scNEq (fun vs H Q E h => ?_) (fun cdv A outer s H vs Q E hr h => ?_)
  · obtain ⟨a, b, rfl, _⟩ := h
    rfl
  · obtain ⟨n, n', rfl, ⟨B, Pp, B2, P2, N, N', pB, pP, nb, np⟩, q⟩ := h
    refine ⟨_, pss_one (ps_ret (pe_and (pe_callB (C8.call_isC IC) (by rfl) mi (by decide +kernel) (pa_cons (pv 1) (pa_cons (pe_glob (v := .ref C) rfl T.mgC rfl) pa_nil)))
      (pe_and (pe_cmpR (op_eq_dictA (Nat.lt_of_le_of_lt (Nat.le_add_right _ 64) hr.units)) (pe_fld (pv 0) rfl) (pe_fld (pv 1) rfl) (nomark _))
      (pe_one (pe_cmpR (Rl.op_eq_dictT (hu_of hr)) (pe_fld (pv 0) rfl) (pe_fld (pv 1) rfl) (nomark _)))))), ?_⟩
    obtain ⟨dx, d1, d2, hn, h1, h2, _⟩ := N.at_
    obtain ⟨dx', d1', d2', hn', h1', h2', _⟩ := N'.at_
    have nb2 : (nms B2).Nodup := (pB.map Prod.fst).nodup_iff.mp nb
    have np2 : (P2.map Prod.fst).Nodup := (pP.map Prod.fst).nodup_iff.mp np
    refine ⟨.ref n', rfl, n', dx', _, rfl, hn', true, rfl, iteT ?_⟩
    refine ⟨.ref n, rfl, n, C, dx, _, _, rfl, hn, T.cl, T.nB, nf_b d1 d2, .ref n', rfl, n', C, dx', _, _, rfl, hn', T.cl, T.nB, nf_b d1' d2', d1, d1', _, _, rfl, rfl, h1, h1', by rw [bk_len, bk_len, pB.length_eq], fun p hp => ?_, true, rfl, iteT ?_⟩
    · obtain ⟨u, hu, rfl⟩ := bk_in hp
      exact ⟨by rw [valV_bk, getB_of_mem nb2 (show (u.1, u.2) ∈ B2 from pB.mem_iff.mp hu)]; rfl, rfl⟩
    refine ⟨.ref n, rfl, n, C, dx, _, _, rfl, hn, T.cl, T.nW, nf_w d1 d2, .ref n', rfl, n', C, dx', _, _, rfl, hn', T.cl, T.nW, nf_w d1' d2', d2.w, d2'.w, _, _, rfl, rfl, h2, h2', by rw [pt_len, pt_len, pP.length_eq], fun p hp => ?_, ?_⟩
    · obtain ⟨u, hu, rfl⟩ := pt_in hp
      exact ⟨by rw [valV_pt, getP_of_mem np2 (show (u.1, u.2) ∈ P2 from pP.mem_iff.mp hu)]; rfl, rfl⟩
    exact q H fun _ _ e => e
/-- two stands alike -/
def StandsEq (CS C : Addr) (s s' : Addr) (H : Hp) : Prop := ∃ (B : Br) (Pp : Pi) (Qp Qc Qp2 Qc2 : Br), StOf CS C H s B Pp Qp Qc ∧ StOf CS C H s' B Pp Qp2 Qc2 ∧ (∀ x ∈ nms B, val0 Qp x = val0 Qp2 x) ∧ ∀ x ∈ nms B, val0 Qc x = val0 Qc2 x
theorem scSEq : FnScope ["self", "other"] ["self", "other"] (defScope mStand_eq) := ⟨rfl, rfl, rfl, by decide +kernel, rfl, by decide +kernel, by decide +kernel⟩
theorem ok_sEq {f f1 CS C : Addr} {fd fd1 : FuncData} (F : Fun K "__eq__" "Stand.__eq__" mStand_eq f fd) (T : TxN K mg C) (TS : TxS K mg CS) (ICS : C8.InsC K CS)
    (G1 : FnOk P w K mg base CX0 1 f1 fd1 ["self", "other"] (spEq (NetsEq C))) (b1 : Binds K fd1 ["self", "other"] []) (m1 : Meth K C "__eq__" f1) (mi : mg "isinstance" = none) : FnOk P w K mg base CX0 2 f fd ["self", "other"] (spEq (StandsEq CS C)) := by
  refine F.ok scSEq (fun vs H Q E h => ?_) (fun cdv A outer s H vs Q E hr h => ?_)
  · obtain ⟨a, b, rfl, _⟩ := h
    rfl
  · obtain ⟨s, s', rfl, ⟨B, Pp, Qp, Qc, Qp2, Qc2, S, S', eP, eC⟩, q⟩ := h
    refine ⟨_, pss_one (ps_ret (pe_and (pe_callB (C8.call_isC ICS) (by rfl) mi (by decide +kernel) (pa_cons (pv 1) (pa_cons (pe_glob (v := .ref CS) rfl TS.mgC rfl) pa_nil)))
      (pe_and (pe_cmpR (op_eqG (rcG_ins (C := C) G1 m1.at_ m1.fn b1 pass0) hr) (pe_fld (pv 0) rfl) (pe_fld (pv 1) rfl) (nomark _))
      (pe_and (pe_cmpR (op_eq_dictA (Nat.lt_of_le_of_lt (Nat.le_add_right _ 64) hr.units)) (pe_fld (pv 0) rfl) (pe_fld (pv 1) rfl) (nomark _))
      (pe_one (pe_cmpR (op_eq_dictA (Nat.lt_of_le_of_lt (Nat.le_add_right _ 64) hr.units)) (pe_fld (pv 0) rfl) (pe_fld (pv 1) rfl) (nomark _))))))), ?_⟩
    obtain ⟨B1, P1, Up, Uc, SA, g1, pB, pP, so, fp, fc, v1, v2, nn⟩ := S
    obtain ⟨B2, P2, Wp, Wc, SA', g2, pB', pP', so', fp', fc', v1', v2', nn'⟩ := S'
    obtain ⟨dx, n, d1, d2, hs, N, h1, h2⟩ := SA.at_
    obtain ⟨dx', n', d1', d2', hs', N', h1', h2'⟩ := SA'.at_
    obtain ⟨dxn, e1, e2, hn, _, _⟩ := N.at_
    obtain ⟨dxn', e1', e2', hn', _, _⟩ := N'.at_
    have pm : (nms B1).Perm (nms B) := pB.map Prod.fst
    have pm' : (nms B2).Perm (nms B) := pB'.map Prod.fst
    have dicts : ∀ {U W : Br}, Full B1 U → Full B2 W → (∀ x ∈ nms B, val0 U x = val0 W x) → (bk U).length = (bk W).length ∧ ∀ p ∈ bk U, valV (bk W) p.1 = some p.2 ∧ flatB p.2 = true := fun {U W} fU fW e => by
      refine ⟨?_, fun p hp => ?_⟩
      · have a1 : (nms U).length = (nms B1).length := by rw [fU.nm]
        have a2 : (nms W).length = (nms B2).length := by rw [fW.nm]
        have a3 := pm.length_eq
        have a4 := pm'.length_eq
        rw [bk_len, bk_len, ← nms_len, ← nms_len]
        omega
      · obtain ⟨u, hu, rfl⟩ := bk_in hp
        have mu1 : u.1 ∈ nms B1 := by rw [← fU.nm]; exact List.mem_map.mpr ⟨u, hu, rfl⟩
        have mu : u.1 ∈ nms B := pm.mem_iff.mp mu1
        refine ⟨?_, rfl⟩
        rw [valV_bk, fW.get (pm'.mem_iff.mpr mu), ← e u.1 mu, val0_of_mem (by rw [fU.nm]; exact g1.wf.nb) (show (u.1, u.2) ∈ U from hu)]; rfl
    obtain ⟨l1, m1'⟩ := dicts fp fp' fun x hx => by rw [v1 x hx, v1' x hx, eP x hx]
    obtain ⟨l2, m2'⟩ := dicts fc fc' fun x hx => by rw [v2 x hx, v2' x hx, eC x hx]
    refine ⟨.ref s', rfl, s', dx', _, rfl, hs', true, rfl, iteT ?_⟩
    refine ⟨.ref s, rfl, s, CS, dx, _, _, rfl, hs, TS.cl, TS.nN, sf_n n d1 d2, .ref s', rfl, s', CS, dx', _, _, rfl, hs', TS.cl, TS.nN, sf_n n' d1' d2', ⟨n, n', dxn, dxn', _, _, rfl, rfl, hn, hn', B1, P1, B2, P2, N, N', pB.trans pB'.symm, pP.trans pP'.symm, g1.wf.nb, g1.wf.np⟩, fun H1 x1 => ⟨true, rfl, iteT ?_⟩⟩
    refine ⟨.ref s, rfl, s, CS, dx, _, _, rfl, x1 _ _ hs, TS.cl, TS.nP, sf_p n d1 d2, .ref s', rfl, s', CS, dx', _, _, rfl, x1 _ _ hs', TS.cl, TS.nP, sf_p n' d1' d2', d1, d1', _, _, rfl, rfl, x1 _ _ h1, x1 _ _ h1', l1, m1', true, rfl, iteT ?_⟩
    refine ⟨.ref s, rfl, s, CS, dx, _, _, rfl, x1 _ _ hs, TS.cl, TS.nC, sf_c n d1 d2, .ref s', rfl, s', CS, dx', _, _, rfl, x1 _ _ hs', TS.cl, TS.nC, sf_c n' d1' d2', d2, d2', _, _, rfl, rfl, x1 _ _ h2, x1 _ _ h2', l2, m2', ?_⟩
    exact q H1 x1
end
end Nl
end
section
set_option maxHeartbeats 1000000
namespace Nl
open PySem PySem.Spec PyProof.Rows L2 Nt
section
variable {P : Program} {w : World} {K : PySem.W.Frag} {mg : Str → Option Value} {base : Heap}
theorem scWaters : FnScope ["self", "name"] ["self"] (defScope mStand_waters) := ⟨rfl, rfl, rfl, by decide +kernel, rfl, by decide +kernel, by decide +kernel⟩
def spWaters (CS C : Addr) : Sp := fun vs H Q _ => ∃ (s : Addr) (B : Br) (Pp : Pi) (Qp Qc : Br), vs = [.ref s] ∧ StandAt CS C H s B Pp Qp Qc ∧ Good B Pp ∧ Full B Qp ∧ Full B Qc ∧ ∀ H' p, Same H H' → H p = none → H' p = some (.dK (bk (mapN (nms B) (waterOf B Pp Qp Qc)))) → Q (.ref p) H'
theorem ok_waters {f CS C f1 f2 : Addr} {fd fd1 fd2 : FuncData} (F : Fun K "waters" "Stand.waters" mStand_waters f fd) (T : TxS K mg CS) (TN : TxN K mg C)
    (m1 : Meth K C "ponds" f1) (G1 : FnOk P w K mg base CX0 1 f1 fd1 ["self"] (spPonds C)) (b1 : Binds K fd1 ["self"] [])
    (m2 : Meth K CS "water" f2) (G2 : FnOk P w K mg base CX0 6 f2 fd2 ["self", "name"] (spWater CS C)) (b2 : Binds K fd2 ["self", "name"] []) :
    FnOk P w K mg base CX0 7 f fd ["self"] (spWaters CS C) := by
  refine F.ok scWaters (fun vs H Q E h => ?_) (fun cdv A outer s H vs Q E hr h => ?_)
  · obtain ⟨s, B, Pp, Qp, Qc, rfl, _⟩ := h
    rfl
  · obtain ⟨s, B, Pp, Qp, Qc, rfl, S, good, fp, fc, q⟩ := h
    obtain ⟨dx, n, d1, d2, hs, N, h1, h2⟩ := S.at_
    have wf := good.wf
    have lN : (nms B).length ≤ 12 := by rw [nms_len]; exact wf.lb
    refine ⟨_, pss_one (ps_ret (Rl.pe_dcP (T := .dK []) (own := [("name", 1)]) (g := gName 1) (tt := tYes) (.inr rfl) hr rfl scWaters.nd (pi_list (pe_meth0 (pe_fld (pv 0) rfl) TN.cl m1 G1 (hr.mono (by decide)) b1 .nil pass0))
        (blkOk_by (N := ["self", "name"]) (sc := defScope mStand_waters) (by decide +kernel)) (fun _ _ _ _ _ => pg_name (i := 1) scWaters.nd rfl (Or.inl rfl)) (fun _ _ _ _ _ => pts_nil) (fun _ _ _ _ _ => pv 1)
        (fun _ _ _ _ _ => pe_meth (pv 0) T.cl m2 G2 hr b2 .nil pass0 (pa_cons (pv 1) pa_nil)))), ?_⟩
    obtain ⟨dxn, e1, e2, hn, _, _⟩ := N.at_
    refine ⟨.ref s, rfl, s, CS, dx, _, _, rfl, hs, T.cl, T.nN, sf_n n d1 d2, n, dxn, _, rfl, hn, no_attr, n, B, Pp, rfl, N, fun e ne => ?_⟩
    refine ⟨e, rfl, ⟨_, SqL.of upd_same⟩, fun D nD => ?_⟩
    refine ponds_dc (K := K) (f := waterOf B Pp Qp Qc) (fun H => H s = some (.ins CS dx (sf n d1 d2)) ∧ StandAt CS C H s B Pp Qp Qc) (fun sm h => ⟨sm _ _ h.1, h.2.same sm⟩) wf.nb lN upd_same ⟨same_new ne s _ hs, S.same (same_new ne)⟩ nD (fun z => rfl) (fun z => rfl) (fun z H2 R mz _ g h => ?_) (fun H2 hD sm => ?_)
    · exact ⟨.ref s, rfl, s, dx, _, rfl, g.1, sf_no, .str z, rfl, s, B, Pp, Qp, Qc, z, rfl, g.2, good, fp, fc, mz, h⟩
    · exact q H2 D ((same_new ne).trans sm) ((same_new ne).free nD) hD
end
end Nl
end
section
set_option maxHeartbeats 4000000
namespace Nl
open PySem PySem.Spec PyProof.Rows L2 Nt
section
variable {P : Program} {w : World} {K : PySem.W.Frag} {mg : Str → Option Value} {base : Heap} {CX : CXT} {k : Nat} {f : Addr} {fd : FuncData} {ps : List Str} {sp sp1 sp2 : Sp}
/-- either of two promises -/
theorem fnokOr (F1 : FnOk P w K mg base CX k f fd ps sp1) (F2 : FnOk P w K mg base CX k f fd ps sp2) : FnOk P w K mg base CX k f fd ps (fun vs H Q E => sp1 vs H Q E ∨ sp2 vs H Q E) :=
  ⟨fun vs H Q E h => h.elim (F1.len vs H Q E) (F2.len vs H Q E), fun A outer s H args us vs Q E hr e0 hb r h => h.elim (F1.run A outer s H args us vs Q E hr e0 hb r) (F2.run A outer s H args us vs Q E hr e0 hb r)⟩
/-- what never raises may stand where a raise is let -/
theorem fnokCx (F : FnOk P w K mg base CX0 k f fd ps sp) : FnOk P w K mg base CX k f fd ps sp :=
  ⟨F.len, fun A outer s H args us vs Q E hr e0 hb r h => codeAny_mono (F.run A outer s H args us vs Q E hr e0 hb r h) fun o s' q => by
    cases o with
    | error e => exact False.elim q
    | ok fl => cases fl <;> exact q⟩
end
end Nl
end
section
set_option maxHeartbeats 2000000
namespace Nl
open PySem PySem.Spec PyProof.Rows L2 Nt
section
variable {P : Program} {w : World} {K : PySem.W.Frag} {mg : Str → Option Value} {base : Heap}
theorem scRoom : FnScope ["_law_wide", "_law_joins", "_law_one", "_law_other", "_law_out", "_law_come", "_law_two"] ["_law_wide", "_law_joins", "_law_one", "_law_other"] (defScope sRoom) := ⟨rfl, rfl, rfl, by decide +kernel, rfl, by decide +kernel, by decide +kernel⟩
def spRoom : Sp := fun vs H Q _ => ∃ (a b : Addr) (B : Br) (Pp : Pi) (x y : Str) (c d : Int), vs = [.ref a, .ref b, .str x, .str y] ∧ H a = some (.dK (bk B)) ∧ H b = some (.dT (pt Pp)) ∧ (Pp.map Prod.fst).Nodup ∧ Pp.length ≤ 200 ∧ getB B x = some c ∧ getB B y = some d ∧
  ∀ H', Same H H' → Q (.int (if d - inW Pp y < c - outW Pp x then d - inW Pp y else c - outW Pp x)) H'
theorem ok_room {f : Addr} {fd : FuncData} {k : Nat} (F : Fun K "_law_room" "_law_room" sRoom f fd) (ms : mg "sum" = none) (mm : mg "min" = none) : FnOk P w K mg base CX0 (k + 1) f fd ["_law_wide", "_law_joins", "_law_one", "_law_other"] spRoom := by
  refine F.ok scRoom (fun vs H Q E h => ?_) (fun cdv A outer s H vs Q E hr h => ?_)
  · obtain ⟨a, b, B, Pp, x, y, c, d, rfl, _⟩ := h
    rfl
  · obtain ⟨a, b, B, Pp, x, y, c, d, rfl, hA, hB, nd, lp, gx, gy, q⟩ := h
    have hu := hu_of hr
    refine ⟨_, pss_cons (ps_set (i := 4) scRoom.nd rfl (.inl rfl) (pe_callB (cr_sum rfl) (by rfl) ms (by decide +kernel) (pa_cons (pe_lock (pe_lc (own := [("_law_two", 6)]) (g := gName 6) (tt := tTest (tOp rEq (tOp (rIxT K) (tVar 6) (tC (.int 0))) (tVar 2))) rfl scRoom.nd (pi_keys (pv 1))
        (blkOk_by (N := ["_law_wide", "_law_joins", "_law_one", "_law_other", "_law_out", "_law_come", "_law_two"]) (sc := defScope sRoom) (by decide +kernel)) (fun _ _ _ _ _ => pg_name (i := 6) scRoom.nd rfl (Or.inl rfl))
        (fun _ _ _ _ _ => pts_one (pt_cmpR op_eq (pe_ix ix_tup (pv 6) pe_int (fun _ _ => rfl)) (pv 2) (nomark _))) (fun _ _ _ _ _ => pe_dget hu (pv 1) (pv 6) (fun _ _ => rfl)))) pa_nil)))
      (pss_cons (ps_set (i := 5) scRoom.nd rfl (.inl rfl) (pe_callB (cr_sum rfl) (by rfl) ms (by decide +kernel) (pa_cons (pe_lock (pe_lc (own := [("_law_two", 6)]) (g := gName 6) (tt := tTest (tOp rEq (tOp (rIxT K) (tVar 6) (tC (.int 1))) (tVar 3))) rfl scRoom.nd (pi_keys (pv 1))
        (blkOk_by (N := ["_law_wide", "_law_joins", "_law_one", "_law_other", "_law_out", "_law_come", "_law_two"]) (sc := defScope sRoom) (by decide +kernel)) (fun _ _ _ _ _ => pg_name (i := 6) scRoom.nd rfl (Or.inl rfl))
        (fun _ _ _ _ _ => pts_one (pt_cmpR op_eq (pe_ix ix_tup (pv 6) pe_int (fun _ _ => rfl)) (pv 3) (nomark _))) (fun _ _ _ _ _ => pe_dget hu (pv 1) (pv 6) (fun _ _ => rfl)))) pa_nil)))
      (pss_one (ps_ret (pe_callB (call_min2 rfl) (by rfl) mm (by decide +kernel) (pa_cons (pe_op op_sub (pe_dget hu (pv 0) (pv 2) (fun _ _ => rfl)) (pv 4)) (pa_cons (pe_op op_sub (pe_dget hu (pv 0) (pv 3) (fun _ _ => rfl)) (pv 5)) pa_nil)))))), ?_⟩
    refine pick_ok (K := K) (jp := 1) (jv := 6) (jn := 2) (c := 0) (z := x) (fun p => p.1.1) (fun p => .int p.2) at0 lp hB rfl (fun _ => rfl) (fun _ => rfl) (fun _ => rfl) (fun p q od H2 R hm sm hq r => width_at nd hm sm hq rfl rfl r) fun D H1 s1 nD hD => ?_
    refine ⟨D, (Pp.filter fun p => decide (p.1.1 = x)).map (·.2), rfl, SqL.of (by rw [hD, List.map_map]; rfl), ?_⟩
    refine pick_ok (K := K) (jp := 1) (jv := 6) (jn := 3) (c := 1) (z := y) (fun p => p.1.2) (fun p => .int p.2) at1 lp (s1 b _ hB) rfl (fun _ => rfl) (fun _ => rfl) (fun _ => rfl) (fun p q od H2 R hm sm hq r => width_at nd hm sm hq rfl rfl r) fun D2 H2 s2 nD2 hD2 => ?_
    refine ⟨D2, (Pp.filter fun p => decide (p.1.2 = y)).map (·.2), rfl, SqL.of (by rw [hD2, List.map_map]; rfl), ?_⟩
    have sA := s1.trans s2
    refine get_bk (.inl (sA a _ hA)) gx rfl rfl ⟨_, rfl, c, outW Pp x, rfl, rfl, ?_⟩
    refine get_bk (.inl (sA a _ hA)) gy rfl rfl ⟨_, rfl, d, inW Pp y, rfl, rfl, ?_⟩
    exact ⟨_, _, rfl, q H2 sA⟩
end
end Nl
end
section
set_option maxHeartbeats 2000000
namespace Nl
open PySem PySem.Spec PyProof.Rows L2 Nt
section
variable {P : Program} {w : World} {K : PySem.W.Frag} {mg : Str → Option Value} {base : Heap}
theorem scClosed : FnScope ["_law_wide", "_law_joins", "_law_left", "_law_turn", "_law_one", "_law_two"] ["_law_wide", "_law_joins"] (defScope sClosed) := ⟨rfl, rfl, rfl, by decide +kernel, rfl, by decide +kernel, by decide +kernel⟩
def spClosed : Sp := fun vs H Q _ => ∃ (a b : Addr) (B : Br) (Pp : Pi), vs = [.ref a, .ref b] ∧ H a = some (.dK (bk B)) ∧ H b = some (.dT (pt Pp)) ∧ Wf Nm B Pp ∧ Fit B Pp ∧
  ∀ (r : Addr) (L : List Str) (H' : Hp), Same H H' → H r = none → H' r = some (.lst (L.map V.str)) → L.Nodup → (∀ x, x ∈ L ↔ x ∈ nms B ∧ ¬ Opn B Pp x) → Q (.ref r) H'
theorem ok_closed {f : Addr} {fd : FuncData} {k : Nat} (F : Fun K "_law_closed" "_law_closed" sClosed f fd) (ms : mg "sum" = none) (mso : mg "sorted" = none) (mr : mg "range" = none) (mn : mg "len" = none) (ma : mg "all" = none) : FnOk P w K mg base CX0 (k + 1) f fd ["_law_wide", "_law_joins"] spClosed := by
  refine F.ok scClosed (fun vs H Q E h => ?_) (fun cdv A outer s H vs Q E hr h => ?_)
  · obtain ⟨a, b, B, Pp, rfl, _⟩ := h
    rfl
  · obtain ⟨a, b, B, Pp, rfl, hA, hB, wf, fit, q⟩ := h
    have hu := hu_of hr
    refine ⟨_, pss_cons (ps_set (i := 2) scClosed.nd rfl (by first | exact .inl rfl | exact .inr rfl) (pe_lc (own := [("_law_one", 4)]) (g := gName 4)
        (tt := tTest (tOp rEq (tDGet (tVar 0) (tVar 4)) (tCB (rSum K) (tCons (tPick K 1 5 4 0 (tDGet (tVar 1) (tVar 5))) tNil)))) (te := tVar 4) rfl scClosed.nd
        (pi_list (pe_callB (call_sortedD rfl) (by rfl) mso (by decide +kernel) (pa_cons (pv 0) pa_nil)))
        (blkOk_by (N := ["_law_wide", "_law_joins", "_law_left", "_law_turn", "_law_one", "_law_two"]) (sc := defScope sClosed) (by decide +kernel)) (fun _ _ _ _ _ => pg_name (i := 4) scClosed.nd rfl (Or.inr rfl))
        (fun _ _ _ _ _ => pts_one (pt_cmpR op_eq (pe_dget hu (pv 0) (pv 4) (fun _ _ => rfl)) (pe_callB (cr_sum rfl) (by rfl) ms (by decide +kernel) (pa_cons (pe_lock (pe_lc (own := [("_law_two", 5)]) (g := gName 5)
          (tt := tTest (tOp rEq (tOp (rIxT K) (tVar 5) (tC (.int 0))) (tVar 4))) (te := tDGet (tVar 1) (tVar 5)) rfl scClosed.nd (pi_keys (pv 1))
          (blkOk_by (N := ["_law_wide", "_law_joins", "_law_left", "_law_turn", "_law_one", "_law_two"]) (sc := { kind := .function, names := [(".0", .local), ("_law_one", .cell), ("sum", .globalImplicit), ("_law_joins", .cell), ("_law_wide", .cell)], isGenerator := false, isCoroutine := false }) (by decide +kernel))
          (fun _ _ _ _ _ => pg_name (i := 5) scClosed.nd rfl (Or.inl rfl)) (fun _ _ _ _ _ => pts_one (pt_cmpR op_eq (pe_ix ix_tup (pv 5) pe_int (fun _ _ => rfl)) (pv 4) (nomark _))) (fun _ _ _ _ _ => pe_dget hu (pv 1) (pv 5) (fun _ _ => rfl)))) pa_nil)) (nomark _)))
        (fun _ _ _ _ _ => pv 4)))
      (pss_cons (ps_for PassesOwn.never rfl (pi_range1 (by rfl) mr (pa_cons (pe_callB call_lenD (by rfl) mn PySem.boot_len (pa_cons (pv 0) pa_nil)) pa_nil)) (pg_name (i := 3) scClosed.nd rfl (Or.inl rfl))
        (pss_one (ps_set (i := 2) scClosed.nd rfl (by first | exact .inl rfl | exact .inr rfl) (pe_lc (own := [("_law_one", 4)]) (g := gName 4)
          (tt := tB (tCB (rAll K) (tCons (tPick K 1 5 4 0 (tOp (rIn K false) (tOp (rIxT K) (tVar 5) (tC (.int 1))) (tVar 2))) tNil))) (te := tVar 4) rfl scClosed.nd (pi_list (pv 2))
          (blkOk_by (N := ["_law_wide", "_law_joins", "_law_left", "_law_turn", "_law_one", "_law_two"]) (sc := defScope sClosed) (by decide +kernel)) (fun _ _ _ _ _ => pg_name (i := 4) scClosed.nd rfl (Or.inr rfl))
          (fun _ _ _ _ _ => pts_one (pt_val (pe_callB (cr_all rfl) (by rfl) ma (by decide +kernel) (pa_cons (pe_lock (pe_lc (own := [("_law_two", 5)]) (g := gName 5)
            (tt := tTest (tOp rEq (tOp (rIxT K) (tVar 5) (tC (.int 0))) (tVar 4))) (te := tOp (rIn K false) (tOp (rIxT K) (tVar 5) (tC (.int 1))) (tVar 2)) rfl scClosed.nd (pi_keys (pv 1))
            (blkOk_by (N := ["_law_wide", "_law_joins", "_law_left", "_law_turn", "_law_one", "_law_two"]) (sc := { kind := .function, names := [(".0", .local), ("_law_one", .cell), ("all", .globalImplicit), ("_law_joins", .cell), ("_law_left", .cell)], isGenerator := false, isCoroutine := false }) (by decide +kernel))
            (fun _ _ _ _ _ => pg_name (i := 5) scClosed.nd rfl (Or.inl rfl)) (fun _ _ _ _ _ => pts_one (pt_cmpR op_eq (pe_ix ix_tup (pv 5) pe_int (fun _ _ => rfl)) (pv 4) (nomark _)))
            (fun _ _ _ _ _ => pe_cmpR op_in_seq (pe_ix ix_tup (pv 5) pe_int (fun _ _ => rfl)) (pv 2) (by rfl)))) pa_nil))))
          (fun _ _ _ _ _ => pv 4)))))
      (pss_one (ps_ret (pv 2)))), ?_⟩
    have lB : B.length ≤ 12 := wf.lb
    refine ⟨.ref a, rfl, a, bk B, nms B, rfl, .inl hA, ?_, ?_, fun ys e0 pm _ ne0 => ?_⟩
    · unfold bk nms
      rw [List.map_map, List.map_map]; rfl
    · rw [nms_len]; omega
    have s0 : Same H (upd H e0 (.lst (ys.map V.str))) := same_new ne0
    have lY : ys.length = B.length := by rw [pm.length_eq, nms_len]
    refine ⟨e0, rfl, ⟨_, SqL.of upd_same⟩, fun D nD => ?_⟩
    refine keep_lc (K := K) (b := fun z => decide (val0 B z = outW Pp z)) (by omega) upd_same nD (fun _ => rfl) (fun _ => rfl) (fun z H2 R mz sm r => ?_) (fun H2 hD sm => ?_)
    · have sA := s0.trans sm
      obtain ⟨c, gz⟩ := getB_some (pm.mem_iff.mp mz)
      refine get_bk (.inl (sA a _ hA)) gz rfl rfl ?_
      refine pick_ok (K := K) (jp := 1) (jv := 5) (jn := 4) (c := 0) (z := z) (fun p => p.1.1) (fun p => .int p.2) at0 wf.lp (sA b _ hB) rfl (fun _ => rfl) (fun _ => rfl) (fun _ => rfl) (fun p q od H2 R hm sm hq r => width_at wf.np hm sm hq rfl rfl r) fun D3 H3 s3 nD3 hD3 => ?_
      refine ⟨D3, (Pp.filter fun p => decide (p.1.1 = z)).map (·.2), rfl, SqL.of (by rw [hD3, List.map_map]; rfl), rfl, _, rfl, ?_⟩
      have := r H3 s3
      rw [show val0 B z = c by unfold val0; rw [gz]; rfl] at this
      have e : decide (V.int c = V.int (outW Pp z)) = decide (c = outW Pp z) := by
        by_cases h : c = outW Pp z
        · rw [h]; simp
        · rw [decide_eq_false h, decide_eq_false (fun z => h (by injection z))]
      rw [← e] at this
      exact this
    have sB := s0.trans sm
    obtain ⟨L0, hL0⟩ : ∃ L0, L0 = ys.filter fun z => decide (val0 B z = outW Pp z) := ⟨_, rfl⟩
    rw [← hL0] at hD
    have nd0 : L0.Nodup := by rw [hL0]; exact (pm.nodup_iff.mpr wf.nb).sublist List.filter_sublist
    have l0 : L0.length ≤ 12 := by
      rw [hL0]
      exact Nat.le_trans (List.length_filter_le _ _) (by omega)
    have mem0 : ∀ x, x ∈ L0 ↔ ∃ b, (x, b) ∈ B ∧ b = outW Pp x := fun x => by
      rw [hL0, List.mem_filter, pm.mem_iff]
      constructor
      · rintro ⟨h1, h2⟩
        obtain ⟨c, g⟩ := getB_some h1
        have h3 : val0 B x = outW Pp x := of_decide_eq_true h2
        unfold val0 at h3
        rw [g] at h3
        exact ⟨c, getB_mem g, h3⟩
      · rintro ⟨c, hc, e⟩
        refine ⟨List.mem_map.mpr ⟨_, hc, rfl⟩, decide_eq_true ?_⟩
        unfold val0
        rw [getB_of_mem wf.nb hc]; exact e
    have nDH : H D = none := s0.free nD
    refine ⟨.ref a, rfl, a, _, rfl, sB a _ hA, _, rfl, by rw [bk_len]; omega, by rw [bk_len]; omega, ?_⟩
    refine for_it walk_range (fun i σ H3 => ∃ (r : Addr) (y3 y4 y5 : Option V), σ = [some (.ref a), some (.ref b), some (.ref r), y3, y4, y5] ∧ H3 r = some (.lst ((leavesN Pp i L0).map V.str)) ∧ H r = none ∧ Same H H3)
      ⟨D, none, none, none, rfl, hD, nDH, sB⟩ (fun _ _ _ _ _ => trivial) ?_ ?_
    · rintro i x σ H3 H3' hi ⟨r, y3, y4, y5, rfl, hr3, nr, s3⟩ ⟨rfl, rfl⟩
      refine ⟨.ref r, rfl, r, rfl, ⟨_, SqL.of hr3⟩, fun D4 nD4 => ?_⟩
      have lL : (leavesN Pp i L0).length ≤ 12 := Nat.le_trans (leavesN_len Pp i L0 nd0) l0
      refine keep_lc (K := K) (b := leafB Pp (leavesN Pp i L0)) (by omega) hr3 nD4 (fun _ => rfl) (fun _ => rfl) (fun z H4 R mz sm4 rr => ?_) (fun H4 hD4 sm4 => ?_)
      · refine pick_ok (K := K) (jp := 1) (jv := 5) (jn := 4) (c := 0) (z := z) (fun p => p.1.1) (fun p => .bl (decide (p.1.2 ∈ leavesN Pp i L0))) at0 wf.lp (sm4 b _ (s3 b _ hB)) rfl (fun _ => rfl) (fun _ => rfl) (fun _ => rfl) (fun p q od H2 R hm sm hq r2 => ?_) fun D5 H5 s5 nD5 hD5 => ?_
        · have hrb : r ≠ b := fun e => by
            subst e
            rw [hB] at nr; cases nr
          refine ⟨.ref q, rfl, q, _, 1, _, rfl, rfl, SqT.of hq, at1 p, .ref r, rfl, r, _, rfl, .inl (SqL.of (sm r _ (by rw [upd_ne hrb]; exact sm4 r _ hr3))), rfl, flat_strs _, ?_⟩
          show R (.bl (inV (.str p.1.2) _)) H2
          rw [inV_strs]
          exact r2
        · refine ⟨D5, (Pp.filter fun p => decide (p.1.1 = z)).map (fun p => decide (p.1.2 ∈ leavesN Pp i L0)), rfl, SqL.of (by rw [hD5, List.map_map]; rfl), _, rfl, ?_⟩
          have := rr H5 s5
          unfold leafB at this
          rw [List.all_map]
          exact this
      · refine ⟨D4, _, _, _, rfl, ?_, s3.free nD4, s3.trans sm4⟩
        rw [leavesN_succ]
        exact hD4
    · rintro σ H3 ⟨r, y3, y4, y5, rfl, hr3, nr, s3⟩
      rw [show ((((bk B).length : Nat) : Int).toNat) = B.length by rw [bk_len]; omega] at hr3
      exact ⟨.ref r, rfl, q r _ H3 s3 nr hr3 (leavesN_nodup _ _ _ nd0) (leavesN_iff wf fit mem0 nd0)⟩
end
end Nl
end
section
set_option maxHeartbeats 1000000
namespace Nl
open PySem PySem.Spec PyProof.Rows L2 Nt
def wrds : List Str := ["pond", "spill", "main", "ok", "pour", "settled", "rest", "a"]
theorem wrds_nm : ∀ z ∈ wrds, Nm z := by
  have : ∀ z ∈ wrds, nameB z = true := by decide +kernel
  exact this
theorem len2 {x y : Str} {m n : Nat} (hx : x.length ≤ m) (hy : y.length ≤ n) (h : m + n ≤ 1000) : x.length + y.length ≤ sizeLine := line1000 (by omega)
section
variable {P : Program} {w : World} {K : PySem.W.Frag} {mg : Str → Option Value} {base : Heap}
theorem scLName : FnScope ["_law_pot_here", "_law_taken", "_law_letters", "_law_size", "_law_word", "_law_near", "_law_at", "_law_some_here", "_law_k", "_law_one"] ["_law_pot_here", "_law_taken"] (defScope sLName) := ⟨rfl, rfl, rfl, by decide +kernel, rfl, by decide +kernel, by decide +kernel⟩
def spLName : Sp := fun vs H Q _ => ∃ (p a : Addr) (L : List Str), vs = [.ref p, .ref a] ∧ PotAt H p ∧ H a = some (.lst (L.map V.str)) ∧ L.length ≤ 80 ∧ (∀ z ∈ L, Nm z) ∧
  ∀ (z : Str) (H' : Hp), Nm z → z ∉ L → H' a = some (.lst ((L ++ [z]).map V.str)) → (∀ b o, b ≠ p → b ≠ a → H b = some o → H' b = some o) → PotAt H' p → Q (.str z) H'
theorem ok_lname {f fD : Addr} {fd fdD : FuncData} (F : Fun K "_law_name" "_law_name" sLName f fd) (FD : Fun K "_law_draw" "_law_draw" sDraw fD fdD) (GD : FnOk P w K mg base CX0 1 fD fdD ["_law_pot_here", "_law_many"] spDraw) (bD : Binds K fdD ["_law_pot_here", "_law_many"] [])
    (gD : mg "_law_draw" = some (.ref fD)) (mr : mg "range" = none) (mn : mg "len" = none) : FnOk P w K mg base CX0 2 f fd ["_law_pot_here", "_law_taken"] spLName := by
  refine F.ok scLName (fun vs H Q E h => ?_) (fun cdv A outer s H vs Q E hr h => ?_)
  · obtain ⟨p, a, L, rfl, _⟩ := h
    rfl
  · obtain ⟨p, a, L, rfl, hP, hA, lL, nL, q⟩ := h
    have hap : a ≠ p := fun e => by
      obtain ⟨x, y, hp, _⟩ := hP
      subst e
      rw [hA] at hp
      cases L with
      | nil => cases hp
      | cons z l => simp at hp
    refine ⟨_, pss_cons (ps_set (i := 2) scLName.nd rfl (by first | exact .inl rfl | exact .inr rfl) pe_str)
      (pss_cons (ps_set (i := 3) scLName.nd rfl (by first | exact .inl rfl | exact .inr rfl) (pe_ix ix_list (pe_lst (pa_cons pe_int (pa_cons pe_int (pa_cons pe_int (pa_cons pe_int (pa_cons (pe_op op_add pe_int (pe_call GD hr (by rfl) gD FD.kp bD .nil pass0 (pa_cons (pv 0) (pa_cons pe_int pa_nil)))) pa_nil))))))
        (pe_call GD hr (by rfl) gD FD.kp bD .nil pass0 (pa_cons (pv 0) (pa_cons pe_int pa_nil))) (fun _ _ => rfl)))
      (pss_cons (ps_set (i := 4) scLName.nd rfl (by first | exact .inl rfl | exact .inr rfl) (pe_join pe_str (pe_lc (own := [("_law_k", 8)]) (g := gName 8) (tt := tYes) rfl scLName.nd (pi_range1 (by rfl) mr (pa_cons (pv 3) pa_nil))
        (blkOk_by (N := ["_law_pot_here", "_law_taken", "_law_letters", "_law_size", "_law_word", "_law_near", "_law_at", "_law_some_here", "_law_k", "_law_one"]) (sc := defScope sLName) (by decide +kernel)) (fun _ _ _ _ _ => pg_name (i := 8) scLName.nd rfl (Or.inl rfl)) (fun _ _ _ _ _ => pts_nil)
        (fun _ _ _ _ _ => pe_ix ix_str (pv 2) (pe_call GD hr (by rfl) gD FD.kp bD .nil pass0 (pa_cons (pv 0) (pa_cons pe_int pa_nil))) (fun _ _ => rfl)))))
      (pss_cons (ps_mid (ps_if (PW.pt (pw_and (pt_cmpR (op_neD hr.units) (pv 1) (pe_lst pa_nil) (nomark _)) (pw_and1 (pt_cmpR op_eq (pe_call GD hr (by rfl) gD FD.kp bD .nil pass0 (pa_cons (pv 0) (pa_cons pe_int pa_nil))) pe_int (nomark _)))))
        (pss_cons (ps_set (i := 5) scLName.nd rfl (by first | exact .inl rfl | exact .inr rfl) (pe_ix ix_list (pv 1) (pe_call GD hr (by rfl) gD FD.kp bD .nil pass0 (pa_cons (pv 0) (pa_cons (pe_callB call_len_seq (by rfl) mn PySem.boot_len (pa_cons (pv 1) pa_nil)) pa_nil))) (fun _ _ => rfl)))
        (pss_cons (ps_set (i := 6) scLName.nd rfl (by first | exact .inl rfl | exact .inr rfl) (pe_call GD hr (by rfl) gD FD.kp bD .nil pass0 (pa_cons (pv 0) (pa_cons (pe_callB call_len_str (by rfl) mn PySem.boot_len (pa_cons (pv 5) pa_nil)) pa_nil))))
        (pss_one (ps_set (i := 4) scLName.nd rfl (by first | exact .inl rfl | exact .inr rfl) (pe_op op_add_str (pe_op op_add_str (pe_slice sl_str (pv 5) po_none (po_some (pv 6))) (pe_slice sl_str (pv 4) po_none (po_some pe_int))) (pe_slice sl_str (pv 5) (po_some (pe_op op_add (pv 6) pe_int)) po_none)))))) pss_nil))
      (pss_cons (ps_mid (ps_if (pt_cmpR op_in_seq (pv 4) (pv 1) (by rfl))
        (pss_cons (ps_setLc (i := 7) (own := [("_law_k", 8)]) (g := gName 8) (tt := tYes) rfl scLName.nd rfl rfl rfl (pi_range1 (by rfl) mr (pa_cons pe_int pa_nil))
          (blkOk_by (N := ["_law_pot_here", "_law_taken", "_law_letters", "_law_size", "_law_word", "_law_near", "_law_at", "_law_some_here", "_law_k", "_law_one"]) (sc := defScope sLName) (by decide +kernel)) (fun _ _ _ _ _ => pg_name (i := 8) scLName.nd rfl (Or.inl rfl)) (fun _ _ _ _ _ => pts_nil)
          (fun _ _ _ _ _ => pe_op op_add_str (pe_op op_add_str (pe_slice sl_str (pv 4) po_none (po_some pe_int)) (pe_ix ix_str (pv 2) (pe_op op_fdiv (pv 8) pe_int) (fun _ _ => rfl))) (pe_ix ix_str (pv 2) (pe_op op_mod (pv 8) pe_int) (fun _ _ => rfl))))
        (pss_one (ps_set (i := 4) scLName.nd rfl (by first | exact .inl rfl | exact .inr rfl) (pe_ix ix_list (pe_lc (own := [("_law_one", 9)]) (g := gName 9) (tt := tTest (tOp (rIn K true) (tVar 9) (tVar 1))) (te := tVar 9) rfl scLName.nd (pi_list (pv 7))
          (blkOk_by (N := ["_law_pot_here", "_law_taken", "_law_letters", "_law_size", "_law_word", "_law_near", "_law_at", "_law_some_here", "_law_k", "_law_one"]) (sc := defScope sLName) (by decide +kernel)) (fun _ _ _ _ _ => pg_name (i := 9) scLName.nd rfl (Or.inl rfl))
          (fun _ _ _ _ _ => pts_one (pt_cmpR op_notIn_seq (pv 9) (pv 1) (by rfl))) (fun _ _ _ _ _ => pv 9)) pe_int (fun _ _ => rfl))))) pss_nil))
      (pss_cons (ps_expr (pe_bm PySem.F.plainAttrs_list PySem.F.slot_list_append PySem.F.type_list_append mt_append (pv 1) (pa_cons (pv 4) pa_nil)))
      (pss_one (ps_ret (pv 4)))))))), ?_⟩
    -- size
    refine ⟨.ref p, rfl, p, 8, rfl, hP, by decide, by decide, fun d1 H1 k1 hP1 d10 d11 => ?_⟩
    refine ⟨1, d1, rfl, rfl, line1000 (by show 5 ≤ 1000; decide), fun l nl => ?_⟩
    have hlp : l ≠ p := hP1.ne nl
    refine ⟨.ref p, rfl, p, 5, rfl, hP1.new nl, by decide, by decide, fun d2 H2 k2 hP2 d20 d21 => ?_⟩
    have hsz : ∃ sz : Int, atI [V.int 1, V.int 1, V.int 2, V.int 8, V.int (1 + d1)] d2 = some (.int sz) ∧ 1 ≤ sz ∧ sz ≤ 8 := by
      have : d2 = 0 ∨ d2 = 1 ∨ d2 = 2 ∨ d2 = 3 ∨ d2 = 4 := by omega
      rcases this with rfl | rfl | rfl | rfl | rfl
      · exact ⟨1, atI_nat (j := 0) rfl, by decide, by decide⟩
      · exact ⟨1, atI_nat (j := 1) rfl, by decide, by decide⟩
      · exact ⟨2, atI_nat (j := 2) rfl, by decide, by decide⟩
      · exact ⟨8, atI_nat (j := 3) rfl, by decide, by decide⟩
      · exact ⟨1 + d1, atI_nat (j := 4) rfl, by omega, by omega⟩
    obtain ⟨sz, hat, z1, z8⟩ := hsz
    refine ⟨l, _, d2, .int sz, rfl, rfl, SqL.of (k2 l _ hlp upd_same), hat, ?_⟩
    have kA : Kp p H H2 := k1.trans ((Kp.new nl).trans k2)
    -- word
    refine ⟨⟨_, rfl⟩, .int sz, rfl, sz, rfl, by omega, by omega, fun D nD => ?_⟩
    have hDp := hP2.ne nD
    refine lc_it (n := sz.toNat) walk_range (fun i H3 => ∃ cs : List Nat, H3 D = some (.lst ((cs.map sg).map V.str)) ∧ cs.length = i ∧ (∀ c ∈ cs, c ∈ abc.cps.toList) ∧ Kp p H H3 ∧ PotAt H3 p)
      ⟨[], upd_same, rfl, fun c hc => absurd hc List.not_mem_nil, kA.trans (Kp.new nD), hP2.new nD⟩ (fun _ _ _ _ => trivial) ?_ ?_
    · rintro i x H3 H3' hi ⟨cs, hD, hl, hy, kp, hP3⟩ ⟨rfl, rfl⟩
      refine ⟨rfl, .str abc, rfl, .ref p, rfl, p, 26, rfl, hP3, by decide, by decide, fun d H4 k4 hP4 d0 d1 => ?_⟩
      obtain ⟨c, hc, hm, _⟩ := abc_at d0 d1
      refine ⟨abc, d, c, rfl, rfl, by rw [abc_len]; decide, hc, _, k4 _ _ hDp hD, ?_, cs ++ [c], ?_, ?_, ?_, ?_, ?_⟩
      · rw [List.length_map, List.length_map, hl]; exact small1000 (by omega)
      · rw [upd_same, List.map_append, List.map_append]; rfl
      · rw [List.length_append, hl]; rfl
      · intro y hy'
        rcases List.mem_append.mp hy' with e | e
        · exact hy y e
        · have : y = c := by simpa using e
          subst this; exact hm
      · intro b o nb e
        by_cases hb : b = D
        · subst hb
          have := kA b o nb e
          rw [nD] at this; cases this
        · rw [upd_ne hb]
          exact k4 b o nb (kp b o nb e)
      · exact hP4.put hDp
    rintro H3 ⟨cs, hD, hl, hy, kp, hP3⟩
    refine ⟨_, D, cs.map sg, rfl, rfl, .inl (SqL.of hD), ?_, ?_⟩
    · show ((cs.map sg).map (·.length)).sum + (cs.map sg).length * 0 ≤ _
      rw [lens_sg]
      exact line1000 (by omega)
    obtain ⟨wd, hwd⟩ : ∃ wd, wd = Txt.join Str.empty (cs.map sg) := ⟨_, rfl⟩
    have nw : Nm wd := by
      have e : wd.cps.toList = cs := by rw [hwd, join_sg]
      exact nm_of (fun c hc => hy c (by rw [← e]; exact hc)) (by rw [e, hl]; omega) (by rw [e, hl]; omega)
    show tMid _ _ [some (V.ref p), some (V.ref a), some (V.str abc), some (V.int sz), some (V.str (Txt.join Str.empty (cs.map sg))), none, none, none, none, none] H3
    rw [← hwd]
    -- near
    refine ⟨fun σ' H' => ∃ (wd : Str) (y5 y6 : Option V), σ' = [some (.ref p), some (.ref a), some (.str abc), some (.int sz), some (.str wd), y5, y6, none, none, none] ∧ Nm wd ∧ PotAt H' p ∧ Kp p H H', ?_, ?_⟩
    · refine ⟨.ref a, rfl, Nat.zero_le _, fun e ne => ?_⟩
      have s3 : Same H3 (upd H3 e (.lst [])) := same_new ne
      have hA3 := s3 a _ (kp a _ hap hA)
      have kp' : Kp p H (upd H3 e (.lst [])) := kp.trans (Kp.new ne)
      refine ne_nil hA3 upd_same (fun z hz => (nL z hz).sm.mono (by decide)) ⟨_, rfl, ite2 (fun c => ?_) (fun c => ?_)⟩
      · have hL0 : 0 < L.length := List.length_pos_iff.mpr fun z => by subst z; exact absurd c (by decide)
        refine ⟨.ref p, rfl, p, 4, rfl, hP3.new ne, by decide, by decide, fun d H4 k4 hP4 d0 d1 => ?_⟩
        have hA4 := k4 a _ hap hA3
        refine ⟨rfl, _, rfl, ite2 (fun c => ?_) (fun c => ?_)⟩
        · refine ⟨.ref a, rfl, .ref p, rfl, .ref a, rfl, a, _, rfl, .inl (SqL.of hA4), p, _, rfl, hP4, by rw [List.length_map]; omega, by rw [List.length_map]; omega, fun d5 H5 k5 hP5 d50 d51 => ?_⟩
          rw [List.length_map] at d51
          have hj : d5.toNat < L.length := by omega
          have hy5 : L[d5.toNat]? = some L[d5.toNat] := List.getElem?_eq_getElem hj
          have hm5 : L[d5.toNat] ∈ L := List.getElem_mem hj
          have nn := nL _ hm5
          obtain ⟨nr, hnr⟩ : ∃ nr, nr = L[d5.toNat] := ⟨_, rfl⟩
          rw [← hnr] at hy5 nn
          obtain ⟨⟨n1, n8⟩, nab⟩ := Nm.iff.mp nn
          obtain ⟨⟨w1, w8⟩, wab⟩ := Nm.iff.mp nw
          have hx5 : atI (L.map V.str) d5 = some (.str nr) := by
            have e : d5 = ((d5.toNat : Nat) : Int) := by omega
            rw [e]
            exact atI_nat (by rw [List.getElem?_map, hy5]; rfl)
          refine ⟨a, _, d5, .str nr, rfl, rfl, SqL.of (k5 a _ hap hA4), hx5, ?_⟩
          refine ⟨.ref p, rfl, .str nr, rfl, nr, rfl, line1000 (by omega), p, _, rfl, hP5, by omega, by omega, fun t H6 k6 hP6 t0 t1 => ?_⟩
          have e1 := cut_to (z := nr) (k := t) t0 (by omega)
          have e2 := cut_to (z := wd) (k := 1) (by decide) (by omega)
          have e3 := cut_from (z := nr) (k := t + 1) (by omega) (by omega)
          have g1 := cutS_length nr none (some t)
          have g2 := cutS_length wd none (some 1)
          have g3 := cutS_length nr (some (t + 1)) none
          refine ⟨.str nr, rfl, .int t, rfl, t, rfl, nr, rfl, line1000 (by omega), .str wd, rfl, 1, rfl, wd, rfl, line1000 (by omega), _, _, rfl, rfl, line1000 (by omega), ?_⟩
          refine ⟨.str nr, rfl, .int t, rfl, t, 1, rfl, rfl, t + 1, rfl, nr, rfl, line1000 (by omega), _, _, rfl, rfl, line1000 (by rw [strLen_append]; omega), ?_⟩
          refine ⟨_, _, _, rfl, nm_of (((Ab.cut nab _ _).add (Ab.cut wab _ _)).add (Ab.cut nab _ _)) ?_ ?_, hP6, kp'.trans (k4.trans (k5.trans k6))⟩
          · rw [add_list, add_list, e1, e2, e3, List.length_append, List.length_append, List.length_take, List.length_take, List.length_drop, ← len_list, ← len_list]
            show 1 ≤ min t.toNat nr.length + min 1 wd.length + (nr.length - (t + 1).toNat)
            omega
          · rw [add_list, add_list, e1, e2, e3, List.length_append, List.length_append, List.length_take, List.length_take, List.length_drop, ← len_list, ← len_list]
            show min t.toNat nr.length + min 1 wd.length + (nr.length - (t + 1).toNat) ≤ 8
            omega
        · exact ⟨wd, none, none, rfl, nw, hP4, kp'.trans k4⟩
      · exact iteF ⟨wd, none, none, rfl, nw, hP3.new ne, kp'⟩
    clear nw hwd wd hP3 kp hD
    rintro σ H3 ⟨wd, y5, y6, rfl, nw, hP3, kp⟩
    have hA3 := kp a _ hap hA
    -- not taken
    refine ⟨fun σ' H' => ∃ (wd : Str) (y7 : Option V), σ' = [some (.ref p), some (.ref a), some (.str abc), some (.int sz), some (.str wd), y5, y6, y7, none, none] ∧ Nm wd ∧ wd ∉ L ∧ PotAt H' p ∧ Kp p H H', ?_, ?_⟩
    · refine ⟨.str wd, rfl, .ref a, rfl, a, _, rfl, .inl (SqL.of hA3), rfl, flat_strs _, ?_⟩
      show ∃ k, V.bl (inV (.str wd) (L.map V.str)) = .bl k ∧ _
      rw [inV_strs]
      refine ⟨_, rfl, ite2 (fun c => ?_) (fun c => ?_)⟩
      · obtain ⟨⟨w1, w8⟩, wab⟩ := Nm.iff.mp nw
        refine ⟨90, rfl, by decide, by decide, fun D2 nD2 => ?_⟩
        obtain ⟨pre, hpre⟩ : ∃ pre, pre = cutS wd none (some 6) := ⟨_, rfl⟩
        have pl : pre.length ≤ 6 := by
          rw [hpre, len_list]
          by_cases h6 : (6 : Int) ≤ wd.length
          · rw [cut_to (by decide) h6, List.length_take]
            show min 6 _ ≤ 6
            omega
          · rw [cut_all (by decide) (by omega), ← len_list]; omega
        have pab : Ab pre := by rw [hpre]; exact Ab.cut wab _ _
        refine lc_it (n := 90) walk_range (fun i H4 => H4 D2 = some (.lst (((List.range i).map (cand pre)).map V.str)) ∧ Same H3 H4) ⟨upd_same, same_new nD2⟩ (fun _ _ _ _ => trivial) ?_ ?_
        · rintro i x H4 H4' hi ⟨hD4, sm⟩ ⟨rfl, rfl⟩
          have q0 : (0 : Int) ≤ (0 + (i : Int)) / 26 := by omega
          obtain ⟨c1, hc1, hm1, hg1⟩ := abc_at (d := (0 + (i : Int)) / 26) q0 (by omega)
          obtain ⟨c2, hc2, hm2, hg2⟩ := abc_at (d := (0 + (i : Int)) % 26) (by omega) (by omega)
          refine ⟨rfl, .str wd, rfl, 6, rfl, wd, rfl, line1000 (by omega), .str abc, rfl, .int (0 + (i : Int)), rfl, _, 26, rfl, rfl, ⟨by decide, by decide⟩, abc, _, c1, rfl, rfl, by rw [abc_len]; decide, hc1, _, _, rfl, rfl, ?_,
            .str abc, rfl, .int (0 + (i : Int)), rfl, _, 26, rfl, rfl, (by show (0 : Int) < 26; decide), abc, _, c2, rfl, rfl, by rw [abc_len]; decide, hc2, _, _, rfl, rfl, ?_, _, hD4, ?_, ?_, ?_⟩
          · rw [← hpre]
            show pre.length + 1 ≤ _
            exact line1000 (by omega)
          · rw [← hpre, strLen_append]
            show pre.length + 1 + 1 ≤ _
            exact line1000 (by omega)
          · rw [List.length_map, List.length_map, List.length_range]; exact small1000 (by omega)
          · rw [upd_same, List.range_succ, List.map_append, List.map_append, ← hpre]
            have t1 : ((0 + (i : Int)) / 26).toNat = i / 26 := by omega
            have t2 : ((0 + (i : Int)) % 26).toNat = i % 26 := by omega
            rw [t1] at hg1
            rw [t2] at hg2
            have e : pre ++ (⟨#[c1]⟩ : Str) ++ (⟨#[c2]⟩ : Str) = cand pre i := by
              unfold cand sg
              rw [List.getD_eq_getElem?_getD, List.getD_eq_getElem?_getD, hg1, hg2]; rfl
            rw [e]; rfl
          · exact fun c o ec => by
              have nb : c ≠ D2 := ne_of_none ec nD2
              rw [upd_ne nb]; exact sm c o ec
        rintro H4 ⟨hD4, sm⟩
        refine ⟨.ref D2, rfl, D2, rfl, ⟨_, SqL.of hD4⟩, fun D5 nD5 => ?_⟩
        refine keep_lc (K := K) (b := fun z => !decide (z ∈ L)) (by rw [List.length_map, List.length_range]; decide) hD4 nD5 (fun _ => rfl) (fun _ => rfl) (fun z H5 R mz sm5 r => ?_) (fun H5 hD5 sm5 => ?_)
        · refine ⟨.str z, rfl, .ref a, rfl, a, _, rfl, .inl (SqL.of (sm5 a _ (sm a _ hA3))), rfl, flat_strs _, ?_⟩
          refine ⟨_, rfl, ?_⟩
          show R (!inV (.str z) (L.map V.str)) H5
          rw [inV_strs]
          exact r H5 (Same.refl _)
        · have ne := cand_free (z := pre) (L := L) (by omega)
          cases hf : (((List.range 90).map (cand pre)).filter fun x => !decide (x ∈ L)) with
          | nil => exact absurd hf ne
          | cons wx rest =>
            rw [hf] at hD5
            have mx : wx ∈ (((List.range 90).map (cand pre)).filter fun x => !decide (x ∈ L)) := by rw [hf]; exact List.mem_cons_self
            obtain ⟨m1, m2⟩ := List.mem_filter.mp mx
            have nx : wx ∉ L := fun z => by rw [decide_eq_true z] at m2; cases m2
            obtain ⟨j, hj, ej⟩ := List.mem_map.mp m1
            have hj90 := List.mem_range.mp hj
            have nwx : Nm wx := by
              rw [← ej]
              have cl := cand_list pre j
              refine nm_of ?_ ?_ ?_
              · intro c hc
                rw [cl] at hc
                rcases List.mem_append.mp hc with h | h
                · exact pab c h
                · have gd : ∀ k, k < 26 → abc.cps.toList.getD k 0 ∈ abc.cps.toList := fun k hk => by
                    have hk' : k < abc.cps.toList.length := by rw [abc_len2]; exact hk
                    rw [List.getD_eq_getElem?_getD, List.getElem?_eq_getElem hk']
                    exact List.getElem_mem hk'
                  have h' : c = abc.cps.toList.getD (j / 26) 0 ∨ c = abc.cps.toList.getD (j % 26) 0 := by simpa using h
                  rcases h' with rfl | rfl
                  · exact gd _ (by omega)
                  · exact gd _ (by omega)
              · rw [cl, List.length_append]
                show 1 ≤ _ + 2
                omega
              · rw [cl, List.length_append, ← len_list]
                show _ + 2 ≤ 8
                omega
            refine ⟨D5, _, 0, .str wx, rfl, rfl, SqL.of hD5, atI_nat (j := 0) rfl, ?_⟩
            exact ⟨wx, _, rfl, nwx, nx, (hP3.same sm).same sm5, kp.trans (Kp.of_same (sm.trans sm5))⟩
      · exact ⟨wd, none, rfl, nw, fun z => c (decide_eq_true z), hP3, kp⟩
    clear nw hP3 kp hA3 wd
    rintro σ H3 ⟨wd, y7, rfl, nw, fw, hP3, kp⟩
    have hA3 := kp a _ hap hA
    refine ⟨.ref a, rfl, .inl ⟨rfl, _, SqL.of hA3⟩, .str wd, rfl, a, _, _, rfl, rfl, hA3, by rw [List.length_map]; exact small1000 (by omega), ?_⟩
    refine ⟨.str wd, rfl, q wd _ nw fw ?_ ?_ (hP3.put hap)⟩
    · rw [upd_same, List.map_append]; rfl
    · intro b o nb na e
      rw [upd_ne na]; exact kp b o nb e
end
end Nl
end
section
set_option maxHeartbeats 2000000
namespace Nl
open PySem PySem.Spec PyProof.Rows L2 Nt
section
variable {P : Program} {w : World} {K : PySem.W.Frag} {mg : Str → Option Value} {base : Heap}
theorem scNet : FnScope ["_law_pot_here", "_law_most", "_law_high", "_law_wide", "_law_joins", "_law_names", "_law_k", "_law_name_here", "_law_one", "_law_other", "_law_room_here", "_law_turn", "_law_closed_here", "_law_two"] ["_law_pot_here", "_law_most", "_law_high"] (defScope sNet) := ⟨rfl, rfl, rfl, by decide +kernel, rfl, by decide +kernel, by decide +kernel⟩
def spNet : Sp := fun vs H Q _ => ∃ (p : Addr) (mo hi : Int), vs = [.ref p, .int mo, .int hi] ∧ PotAt H p ∧ 4 ≤ mo ∧ mo ≤ 12 ∧ 1 ≤ hi ∧ hi ≤ 60 ∧
  ∀ (t a b : Addr) (B : Br) (Pp : Pi) (H' : Hp), Kp p H H' → PotAt H' p → H t = none → H a = none → H b = none → H' t = some (.tup [.ref a, .ref b]) → H' a = some (.dK (bk B)) → H' b = some (.dT (pt Pp)) → Good B Pp → Q (.ref t) H'
theorem ok_net {f fD fN fR fC : Addr} {fd fdD fdN fdR fdC : FuncData} (F : Fun K "_law_net" "_law_net" sNet f fd) (FD : Fun K "_law_draw" "_law_draw" sDraw fD fdD) (GD : FnOk P w K mg base CX0 1 fD fdD ["_law_pot_here", "_law_many"] spDraw) (bD : Binds K fdD ["_law_pot_here", "_law_many"] []) (gD : mg "_law_draw" = some (.ref fD))
    (FN : Fun K "_law_name" "_law_name" sLName fN fdN) (GN : FnOk P w K mg base CX0 2 fN fdN ["_law_pot_here", "_law_taken"] spLName) (bN : Binds K fdN ["_law_pot_here", "_law_taken"] []) (gN : mg "_law_name" = some (.ref fN))
    (FR : Fun K "_law_room" "_law_room" sRoom fR fdR) (GR : FnOk P w K mg base CX0 1 fR fdR ["_law_wide", "_law_joins", "_law_one", "_law_other"] spRoom) (bR : Binds K fdR ["_law_wide", "_law_joins", "_law_one", "_law_other"] []) (gR : mg "_law_room" = some (.ref fR))
    (FC : Fun K "_law_closed" "_law_closed" sClosed fC fdC) (GC : FnOk P w K mg base CX0 1 fC fdC ["_law_wide", "_law_joins"] spClosed) (bC : Binds K fdC ["_law_wide", "_law_joins"] []) (gC : mg "_law_closed" = some (.ref fC))
    (mr : mg "range" = none) (mn : mg "len" = none) (mm : mg "min" = none) (mso : mg "sorted" = none) : FnOk P w K mg base CX0 3 f fd ["_law_pot_here", "_law_most", "_law_high"] spNet := by
  refine F.ok scNet (fun vs H Q E h => ?_) (fun cdv A outer s H vs Q E hr h => ?_)
  · obtain ⟨p, mo, hi, rfl, _⟩ := h
    rfl
  · obtain ⟨p, mo, hi, rfl, hP, mo4, mo12, hi1, hi60, q⟩ := h
    have hu := hu_of hr
    have hr1 := hr.mono (show 1 ≤ 2 by decide)
    refine ⟨_, pss_cons (ps_par3 (i := 3) (j := 4) (l := 5) rfl scNet.nd rfl rfl rfl (by decide) (by decide) (by decide) rfl rfl rfl (pa_cons pe_dnewK (pa_cons pe_dnewT (pa_cons (pe_lst pa_nil) pa_nil))) (by rfl))
      (pss_cons (ps_for PassesOwn.never rfl (pi_range1 (by rfl) mr (pa_cons (pe_ix ix_list (pe_lst (pa_cons pe_int (pa_cons pe_int (pa_cons pe_int (pa_cons pe_int (pa_cons pe_int (pa_cons pe_int (pa_cons (pe_call GD hr1 (by rfl) gD FD.kp bD .nil pass0 (pa_cons (pv 0) (pa_cons (pe_op op_add (pv 1) pe_int) pa_nil))) (pa_cons (pv 1) pa_nil)))))))))
          (pe_call GD hr1 (by rfl) gD FD.kp bD .nil pass0 (pa_cons (pv 0) (pa_cons pe_int pa_nil))) (fun _ _ => rfl)) pa_nil)) (pg_name (i := 6) scNet.nd rfl (Or.inl rfl))
        (pss_one (ps_if (pt_cmpR op_lt (pv 6) (pv 1) (nomark _))
          (pss_one (ps_dput hu (pv 3) (pe_call GN hr (by rfl) gN FN.kp bN .nil pass0 (pa_cons (pv 0) (pa_cons (pv 5) pa_nil))) (pe_op op_add pe_int (pe_call GD hr1 (by rfl) gD FD.kp bD .nil pass0 (pa_cons (pv 0) (pa_cons (pe_ix ix_list (pe_lst (pa_cons (pv 2) (pa_cons (pe_callB (call_min2 rfl) (by rfl) mm (by decide +kernel) (pa_cons pe_int (pa_cons (pv 2) pa_nil))) pa_nil)))
            (pe_call GD hr1 (by rfl) gD FD.kp bD .nil pass0 (pa_cons (pv 0) (pa_cons pe_int pa_nil))) (fun _ _ => rfl)) pa_nil)))) rfl)) pss_nil)))
      (pss_cons (ps_for PassesOwn.never rfl (pi_list (pv 5)) (pg_name (i := 8) scNet.nd rfl (Or.inr rfl))
        (pss_one (ps_for PassesOwn.never rfl (pi_list (pv 5)) (pg_name (i := 9) scNet.nd rfl (Or.inl rfl))
          (pss_cons (ps_set (i := 10) scNet.nd rfl (by first | exact .inl rfl | exact .inr rfl) (pe_ifExp (pt_cmpR op_eq (pv 8) (pv 9) (nomark _)) pe_int (pe_call GR hr1 (by rfl) gR FR.kp bR .nil pass0 (pa_cons (pv 3) (pa_cons (pv 4) (pa_cons (pv 8) (pa_cons (pv 9) pa_nil)))))))
          (pss_one (ps_if (PW.pt (pw_and (pt_cmpR op_gt (pv 10) pe_int (nomark _)) (pw_and1 (pt_cmpR op_gt (pe_call GD hr1 (by rfl) gD FD.kp bD .nil pass0 (pa_cons (pv 0) (pa_cons pe_int pa_nil))) pe_int (nomark _)))))
            (pss_one (ps_dput hu (pv 4) (pe_tup (pa_cons (pv 8) (pa_cons (pv 9) pa_nil))) (pe_ix ix_list (pe_lst (pa_cons (pe_op op_add pe_int (pe_call GD hr1 (by rfl) gD FD.kp bD .nil pass0 (pa_cons (pv 0) (pa_cons (pv 10) pa_nil)))) (pa_cons (pv 10) (pa_cons pe_int pa_nil))))
              (pe_call GD hr1 (by rfl) gD FD.kp bD .nil pass0 (pa_cons (pv 0) (pa_cons pe_int pa_nil))) (fun _ _ => rfl)) rfl)) pss_nil))))))
      (pss_cons (ps_for PassesOwn.never rfl (pi_range1 (by rfl) mr (pa_cons (pe_callB call_len_seq (by rfl) mn PySem.boot_len (pa_cons (pv 5) pa_nil)) pa_nil)) (pg_name (i := 11) scNet.nd rfl (Or.inl rfl))
        (pss_cons (ps_set (i := 12) scNet.nd rfl (by first | exact .inl rfl | exact .inr rfl) (pe_call GC hr1 (by rfl) gC FC.kp bC .nil pass0 (pa_cons (pv 3) (pa_cons (pv 4) pa_nil))))
        (pss_one (ps_if (pt_cmpR (op_neD hr.units) (pv 12) (pe_lst pa_nil) (nomark _))
          (pss_cons (ps_set (i := 8) scNet.nd rfl (by first | exact .inl rfl | exact .inr rfl) (pe_ix ix_list (pv 12) (pe_call GD hr1 (by rfl) gD FD.kp bD .nil pass0 (pa_cons (pv 0) (pa_cons (pe_callB call_len_seq (by rfl) mn PySem.boot_len (pa_cons (pv 12) pa_nil)) pa_nil))) (fun _ _ => rfl)))
          (pss_one (ps_expr (pe_bm PySem.F.plainAttrs_dict PySem.F.slot_dict_pop PySem.F.type_dict_pop (Rl.mt_popT1 hu) (pv 4) (pa_cons (pe_ix ix_list (pe_lc (own := [("_law_two", 13)]) (g := gName 13)
            (tt := tTest (tOp rEq (tOp (rIxT K) (tVar 13) (tC (.int 0))) (tVar 8))) (te := tVar 13) rfl scNet.nd (pi_list (pe_callB (Rl.call_sortD rfl) (by rfl) mso (by decide +kernel) (pa_cons (pv 4) pa_nil)))
            (blkOk_by (N := ["_law_pot_here", "_law_most", "_law_high", "_law_wide", "_law_joins", "_law_names", "_law_k", "_law_name_here", "_law_one", "_law_other", "_law_room_here", "_law_turn", "_law_closed_here", "_law_two"]) (sc := defScope sNet) (by decide +kernel))
            (fun _ _ _ _ _ => pg_name (i := 13) scNet.nd rfl (Or.inl rfl)) (fun _ _ _ _ _ => pts_one (pt_cmpR op_eq (pe_ix ix_tup (pv 13) pe_int (fun _ _ => rfl)) (pv 8) (nomark _))) (fun _ _ _ _ _ => pv 13)) pe_int (fun _ _ => rfl)) pa_nil))))) pss_nil))))
      (pss_one (ps_ret (pe_tup (pa_cons (pv 3) (pa_cons (pv 4) pa_nil)))))))), ?_⟩
    -- {}, {}, []
    refine fun a na => ?_
    refine fun b nb => ?_
    refine ⟨Nat.zero_le _, fun n nn => ?_⟩
    refine ⟨_, _, _, rfl, ?_⟩
    have hab : a ≠ b := ne_of_none upd_same nb
    have hbn : b ≠ n := ne_of_none upd_same nn
    have han : a ≠ n := ne_of_none (show (upd (upd H a (.dK [])) b (.dT [])) a = some (.dK []) by rw [upd_ne hab]; exact upd_same) nn
    have hap := hP.ne na
    have hbp := (hP.new (o := .dK []) na).ne nb
    have hnp := ((hP.new (o := .dK []) na).new (o := .dT []) nb).ne nn
    have nbH : H b = none := by rw [upd_ne (Ne.symm hab)] at nb; exact nb
    have nnH : H n = none := by
      rw [upd_ne (Ne.symm hbn), upd_ne (Ne.symm han)] at nn; exact nn
    have hP0 : PotAt (upd (upd (upd H a (.dK [])) b (.dT [])) n (.lst [])) p := ((hP.new na).new nb).new nn
    have k0 : Kp p H (upd (upd (upd H a (.dK [])) b (.dT [])) n (.lst [])) := (Kp.new na).trans ((Kp.new nb).trans (Kp.new nn))
    have ha0 : (upd (upd (upd H a (.dK [])) b (.dT [])) n (.lst [])) a = some (.dK (bk [])) := by rw [upd_ne han, upd_ne hab]; exact upd_same
    have hb0 : (upd (upd (upd H a (.dK [])) b (.dT [])) n (.lst [])) b = some (.dT (pt [])) := by rw [upd_ne hbn]; exact upd_same
    have hn0 : (upd (upd (upd H a (.dK [])) b (.dT [])) n (.lst [])) n = some (.lst ((nms []).map V.str)) := upd_same
    obtain ⟨H0, hH0⟩ : ∃ H0, H0 = upd (upd (upd H a (.dK [])) b (.dT [])) n (.lst []) := ⟨_, rfl⟩
    rw [← hH0] at hP0 k0 ha0 hb0 hn0 ⊢
    -- the number of ponds
    refine ⟨.ref p, rfl, .int mo, rfl, mo, 1, rfl, rfl, p, _, rfl, hP0, by omega, by omega, fun d1 H1 k1 hP1 d10 d11 => ?_⟩
    refine ⟨.int mo, rfl, line1000 (by show 8 ≤ 1000; decide), fun l nl => ?_⟩
    have hlp := hP1.ne nl
    refine ⟨.ref p, rfl, p, 8, rfl, hP1.new nl, by decide, by decide, fun d2 H2 k2 hP2 d20 d21 => ?_⟩
    have hsz : ∃ sz : Int, atI [V.int 0, V.int 1, V.int 2, V.int 3, V.int 3, V.int 4, V.int d1, V.int mo] d2 = some (.int sz) ∧ 0 ≤ sz ∧ sz ≤ mo := by
      have : d2 = 0 ∨ d2 = 1 ∨ d2 = 2 ∨ d2 = 3 ∨ d2 = 4 ∨ d2 = 5 ∨ d2 = 6 ∨ d2 = 7 := by omega
      rcases this with rfl | rfl | rfl | rfl | rfl | rfl | rfl | rfl
      · exact ⟨0, atI_nat (j := 0) rfl, by omega, by omega⟩
      · exact ⟨1, atI_nat (j := 1) rfl, by omega, by omega⟩
      · exact ⟨2, atI_nat (j := 2) rfl, by omega, by omega⟩
      · exact ⟨3, atI_nat (j := 3) rfl, by omega, by omega⟩
      · exact ⟨3, atI_nat (j := 4) rfl, by omega, by omega⟩
      · exact ⟨4, atI_nat (j := 5) rfl, by omega, by omega⟩
      · exact ⟨d1, atI_nat (j := 6) rfl, by omega, by omega⟩
      · exact ⟨mo, atI_nat (j := 7) rfl, by omega, by omega⟩
    obtain ⟨sz, hat, sz0, szm⟩ := hsz
    have kk : Kp p H0 H2 := k1.trans ((Kp.new nl).trans k2)
    refine ⟨l, _, d2, .int sz, rfl, rfl, SqL.of (k2 l _ hlp upd_same), hat, sz, rfl, by omega, by omega, ?_⟩
    refine for_it walk_range (fun i σ H3 => ∃ (B : Br) (y6 y7 : Option V), σ = [some (.ref p), some (.int mo), some (.int hi), some (.ref a), some (.ref b), some (.ref n), y6, y7, none, none, none, none, none, none] ∧ H3 a = some (.dK (bk B)) ∧ H3 b = some (.dT (pt [])) ∧ H3 n = some (.lst ((nms B).map V.str)) ∧
        (nms B).Nodup ∧ B.length = i ∧ (∀ r ∈ B, Nm r.1 ∧ 1 ≤ r.2 ∧ r.2 ≤ 60) ∧ Kp p H H3 ∧ PotAt H3 p)
      ⟨[], none, none, rfl, kk a _ hap ha0, kk b _ hbp hb0, kk n _ hnp hn0, List.nodup_nil, rfl, fun r h => absurd h List.not_mem_nil, k0.trans kk, hP2⟩ (fun _ _ _ _ _ => trivial) ?_ ?_
    · rintro i x σ H3 H3' hi3 ⟨B, y6, y7, rfl, ha3, hb3, hn3, ndB, lB, okB, kp, hP3⟩ ⟨rfl, rfl⟩
      refine ⟨.int (0 + (i : Int)), rfl, .int mo, rfl, _, _, rfl, rfl, _, rfl, ite2 (fun c => ?_) (fun c => ?_)⟩
      · refine ⟨.ref p, rfl, .int hi, rfl, .int hi, rfl, 4, hi, rfl, line1000 (by show 2 ≤ 1000; decide), fun l4 nl4 => ?_⟩
        have hlp4 := hP3.ne nl4
        refine ⟨.ref p, rfl, p, 2, rfl, hP3.new nl4, by decide, by decide, fun d5 H5 k5 hP5 d50 d51 => ?_⟩
        have hm : ∃ m : Int, atI [V.int hi, V.int (if hi < 4 then hi else 4)] d5 = some (.int m) ∧ 1 ≤ m ∧ m ≤ 60 := by
          have : d5 = 0 ∨ d5 = 1 := by omega
          rcases this with rfl | rfl
          · exact ⟨hi, atI_nat (j := 0) rfl, hi1, hi60⟩
          · refine ⟨_, atI_nat (j := 1) rfl, ?_, ?_⟩
            · split <;> omega
            · split <;> omega
        obtain ⟨m, hm, m1, m60⟩ := hm
        refine ⟨l4, _, d5, .int m, rfl, rfl, SqL.of (k5 l4 _ hlp4 upd_same), hm, p, m, rfl, hP5, by omega, by omega, fun d6 H6 k6 hP6 d60 d61 => ?_⟩
        have k36 : Kp p H3' H6 := (Kp.new nl4).trans (k5.trans k6)
        refine ⟨1, d6, rfl, rfl, .ref a, rfl, .ref p, rfl, .ref n, rfl, p, n, nms B, rfl, hP6, k36 n _ hnp hn3, by rw [nms_len]; omega, fun z hz => ?_, fun z H7 nz fz hn7 kp7 hP7 => ?_⟩
        · obtain ⟨r, hr', e⟩ := List.mem_map.mp hz
          rw [← e]; exact (okB r hr').1
        have ha7 := kp7 a _ hap han (k36 a _ hap ha3)
        have hb7 := kp7 b _ hbp hbn (k36 b _ hbp hb3)
        refine ⟨a, _, rfl, DPut.k (k := Sum.inr z) ha7 (by rw [bk_len]; exact small1000 (by omega)), ?_⟩
        refine ⟨B ++ [(z, 1 + d6)], _, _, rfl, ?_, ?_, ?_, ?_, ?_, ?_, ?_, ?_⟩
        · rw [upd_same, putK_bk fz]
        · rw [upd_ne (Ne.symm hab)]; exact hb7
        · rw [upd_ne (Ne.symm han), nms_append]; exact hn7
        · rw [nms_append]
          exact List.nodup_append.mpr ⟨ndB, by simp [nms], fun x hx1 y hy1 e => by
            have e2 : y = z := by simpa [nms] using hy1
            exact fz (by rw [← e2, ← e]; exact hx1)⟩
        · rw [List.length_append, lB]; rfl
        · intro r hr'
          rcases List.mem_append.mp hr' with h | h
          · exact okB r h
          · have : r = (z, 1 + d6) := by simpa using h
            subst this
            exact ⟨nz, by show 1 ≤ 1 + d6; omega, by show 1 + d6 ≤ 60; omega⟩
        · intro c o nc e
          have nca : c ≠ a := ne_of_none e na
          have ncn : c ≠ n := ne_of_none e nnH
          rw [upd_ne nca]
          exact kp7 c o nc ncn (k36 c o nc (kp c o nc e))
        · exact hP7.put hap
      · exact absurd (decide_eq_true (by omega)) c
    rintro σ H3 ⟨B, y6, y7, rfl, ha3, hb3, hn3, ndB, lB, okB, kp3, hP3⟩
    have lN : (nms B).length ≤ 12 := by rw [nms_len]; omega
    have wf0 : Wf Nm B [] := ⟨ndB, by omega, okB, List.nodup_nil, Nat.zero_le _, fun r h => absurd h List.not_mem_nil⟩
    have fit0 : Fit B [] := fun r hr' => by
      have := (okB r hr').2.1
      exact ⟨by show (0 : Int) ≤ r.2; omega, by show (0 : Int) ≤ r.2; omega⟩
    -- pipes
    refine ⟨.ref n, rfl, n, rfl, ⟨_, SqL.of hn3⟩, ?_⟩
    refine for_it (walk_list (xs := (nms B).map V.str)) (fun i σ H4 => ∃ (Pp : Pi) (y8 y9 y10 : Option V), σ = [some (.ref p), some (.int mo), some (.int hi), some (.ref a), some (.ref b), some (.ref n), y6, y7, y8, y9, y10, none, none, none] ∧ H4 a = some (.dK (bk B)) ∧ H4 b = some (.dT (pt Pp)) ∧ H4 n = some (.lst ((nms B).map V.str)) ∧
        Wf Nm B Pp ∧ Fit B Pp ∧ (∀ r ∈ Pp, r.1.1 ∈ (nms B).take i) ∧ Pp.length ≤ 12 * i ∧ Kp p H H4 ∧ PotAt H4 p)
      ⟨[], none, none, none, rfl, ha3, hb3, hn3, wf0, fit0, fun r h => absurd h List.not_mem_nil, Nat.zero_le _, kp3, hP3⟩ (fun i σ H4 _ ⟨_, _, _, _, _, _, _, h, _⟩ => SqL.of h) ?_ ?_
    · rintro i v σ H4 H4' hi4 ⟨Pp, y8, y9, y10, rfl, ha4, hb4, hn4, wf4, fit4, old4, len4, kp4, hP4⟩ ⟨rfl, hv⟩
      obtain ⟨x, rfl, hx⟩ := nms_at hv
      have mx : x ∈ nms B := List.mem_of_getElem? hx
      rw [List.length_map] at hi4
      refine ⟨.ref n, rfl, n, rfl, ⟨_, SqL.of hn4⟩, ?_⟩
      refine for_it (walk_list (xs := (nms B).map V.str)) (fun j σ H5 => ∃ (Pp : Pi) (y9 y10 : Option V), σ = [some (.ref p), some (.int mo), some (.int hi), some (.ref a), some (.ref b), some (.ref n), y6, y7, some (.str x), y9, y10, none, none, none] ∧ H5 a = some (.dK (bk B)) ∧ H5 b = some (.dT (pt Pp)) ∧ H5 n = some (.lst ((nms B).map V.str)) ∧
          Wf Nm B Pp ∧ Fit B Pp ∧ (∀ r ∈ Pp, r.1.1 ∈ (nms B).take i ∨ (r.1.1 = x ∧ r.1.2 ∈ (nms B).take j)) ∧ Pp.length ≤ 12 * i + j ∧ Kp p H H5 ∧ PotAt H5 p)
        ⟨Pp, y9, y10, rfl, ha4, hb4, hn4, wf4, fit4, fun r h => .inl (old4 r h), by omega, kp4, hP4⟩ (fun i σ H4 _ ⟨_, _, _, _, _, _, h, _⟩ => SqL.of h) ?_ ?_
      · clear wf4 fit4 old4 len4 kp4 hP4 ha4 hb4 Pp
        rintro j v σ H5 H5' hj5 ⟨Pp, y9, y10, rfl, ha5, hb5, hn5, wf5, fit5, old5, len5, kp5, hP5⟩ ⟨rfl, hv⟩
        obtain ⟨y, rfl, hy⟩ := nms_at hv
        have my : y ∈ nms B := List.mem_of_getElem? hy
        rw [List.length_map] at hj5
        have tkj : (nms B).take (j + 1) = (nms B).take j ++ [y] := by rw [List.take_add_one, hy]; rfl
        have up : ∀ r ∈ Pp, r.1.1 ∈ (nms B).take i ∨ (r.1.1 = x ∧ r.1.2 ∈ (nms B).take (j + 1)) := fun r h => (old5 r h).imp id fun ⟨h1, h2⟩ => ⟨h1, by rw [tkj]; exact List.mem_append_left _ h2⟩
        refine ⟨.str x, rfl, .str y, rfl, rfl, _, rfl, ?_⟩
        rw [decStr]
        refine ite2 (fun c => ?_) (fun c => ?_)
        · refine ⟨.int 0, rfl, 0, 0, rfl, rfl, _, rfl, iteF (iteF ?_)⟩
          exact ⟨Pp, _, _, rfl, ha5, hb5, hn5, wf5, fit5, up, by omega, kp5, hP5⟩
        · have nxy : x ≠ y := fun e => c (decide_eq_true e)
          obtain ⟨cx, gx⟩ := getB_some mx
          obtain ⟨cy, gy⟩ := getB_some my
          refine ⟨.ref a, rfl, .ref b, rfl, .str x, rfl, .str y, rfl, a, b, B, Pp, x, y, cx, cy, rfl, ha5, hb5, wf5.np, wf5.lp, gx, gy, fun H6 s6 => ?_⟩
          obtain ⟨rm, hrm⟩ : ∃ rm, rm = if cy - inW Pp y < cx - outW Pp x then cy - inW Pp y else cx - outW Pp x := ⟨_, rfl⟩
          rw [← hrm]
          have r1 : rm ≤ cx - outW Pp x := by rw [hrm]; split <;> omega
          have r2 : rm ≤ cy - inW Pp y := by rw [hrm]; split <;> omega
          have ha6 := s6 a _ ha5
          have hb6 := s6 b _ hb5
          have hn6 := s6 n _ hn5
          have kp6 : Kp p H H6 := kp5.trans (Kp.of_same s6)
          have hP6 := hP5.same s6
          refine ⟨.int rm, rfl, rm, 0, rfl, rfl, _, rfl, ite2 (fun c1 => ?_) (fun c1 => ?_)⟩
          · have rpos : 0 < rm := of_decide_eq_true c1
            have cx60 := (wf5.rb _ (getB_mem gx)).2.2
            have out0 : 0 ≤ outW Pp x := sumOf_nonneg fun r hr' => by have := (wf5.rp r hr').2.2.2.1; omega
            have rm60 : rm ≤ 60 := by
              have cx60' : cx ≤ 60 := cx60
              omega
            refine ⟨.ref p, rfl, p, 3, rfl, hP6, by decide, by decide, fun d7 H7 k7 hP7 d70 d71 => ?_⟩
            refine ⟨_, _, rfl, rfl, _, rfl, ite2 (fun c2 => ?_) (fun c2 => ?_)⟩
            · refine ⟨.ref p, rfl, .int rm, rfl, p, rm, rfl, hP7, rpos, by omega, fun d8 H8 k8 hP8 d80 d81 => ?_⟩
              refine ⟨1, d8, rfl, rfl, .int rm, rfl, line1000 (by show 3 ≤ 1000; decide), fun l8 nl8 => ?_⟩
              have hlp8 := hP8.ne nl8
              refine ⟨.ref p, rfl, p, 3, rfl, hP8.new nl8, by decide, by decide, fun d9 H9 k9 hP9 d90 d91 => ?_⟩
              have hm : ∃ m : Int, atI [V.int (1 + d8), V.int rm, V.int 1] d9 = some (.int m) ∧ 1 ≤ m ∧ m ≤ rm := by
                have : d9 = 0 ∨ d9 = 1 ∨ d9 = 2 := by omega
                rcases this with rfl | rfl | rfl
                · exact ⟨1 + d8, atI_nat (j := 0) rfl, by omega, by omega⟩
                · exact ⟨rm, atI_nat (j := 1) rfl, by omega, by omega⟩
                · exact ⟨1, atI_nat (j := 2) rfl, by omega, by omega⟩
              obtain ⟨m, hm, m1, m2⟩ := hm
              refine ⟨l8, _, d9, .int m, rfl, rfl, SqL.of (k9 l8 _ hlp8 upd_same), hm, ?_⟩
              have k69 : Kp p H6 H9 := k7.trans (k8.trans ((Kp.new nl8).trans k9))
              have hb9 := k69 b _ hbp hb6
              refine ⟨.ref b, rfl, .str x, rfl, .str y, rfl, line1000 (by show 2 ≤ 1000; decide), fun t nt => ?_⟩
              have s9 : Same H9 (upd H9 t (.tup [.str x, .str y])) := same_new nt
              have fr : (x, y) ∉ Pp.map Prod.fst := fun hm' => by
                obtain ⟨r, hr', e⟩ := List.mem_map.mp hm'
                have e1 : r.1 = (x, y) := e
                rcases old5 r hr' with h | ⟨_, h⟩
                · rw [e1] at h
                  exact take_nd ndB hx h
                · rw [e1] at h
                  exact take_nd ndB hy h
              refine ⟨b, _, rfl, DPut.t (k := Rl.pk (x, y)) (s9 b _ hb9) upd_same (by rw [pt_len]; exact small1000 (by omega)), ?_⟩
              refine ⟨Pp ++ [((x, y), m)], _, _, rfl, ?_, ?_, ?_, wf_add wf5 mx my nxy m1 (by omega) fr (by omega), fit_add wf5 fit5 gx gy (by omega) (by omega) m1, ?_, ?_, ?_, ?_⟩
              · rw [upd_ne hab]; exact s9 a _ (k69 a _ hap ha6)
              · rw [upd_same, putK_pt fr]
              · rw [upd_ne (Ne.symm hbn)]; exact s9 n _ (k69 n _ hnp hn6)
              · intro r hr'
                rcases List.mem_append.mp hr' with h | h
                · exact up r h
                · have : r = ((x, y), m) := by simpa using h
                  subst this
                  exact .inr ⟨rfl, by rw [tkj]; exact List.mem_append_right _ (List.mem_singleton.mpr rfl)⟩
              · rw [List.length_append]
                show Pp.length + 1 ≤ _
                omega
              · intro c' o nc e
                have ncb : c' ≠ b := ne_of_none e nbH
                rw [upd_ne ncb]
                exact s9 c' o (k69 c' o nc (kp6 c' o nc e))
              · exact (hP9.same s9).put hbp
            · exact ⟨Pp, _, _, rfl, k7 a _ hap ha6, k7 b _ hbp hb6, k7 n _ hnp hn6, wf5, fit5, up, by omega, kp6.trans k7, hP7⟩
          · exact iteF ⟨Pp, _, _, rfl, ha6, hb6, hn6, wf5, fit5, up, by omega, kp6, hP6⟩
      · rintro σ H5 ⟨Pp, y9, y10, rfl, ha5, hb5, hn5, wf5, fit5, old5, len5, kp5, hP5⟩
        rw [List.length_map] at len5
        refine ⟨Pp, _, _, _, rfl, ha5, hb5, hn5, wf5, fit5, fun r hr' => ?_, by omega, kp5, hP5⟩
        rw [List.take_add_one, hx]
        rcases old5 r hr' with h | ⟨h, _⟩
        · exact List.mem_append_left _ h
        · rw [h]; exact List.mem_append_right _ (List.mem_singleton.mpr rfl)
    rintro σ H4 ⟨Pp, y8, y9, y10, rfl, ha4, hb4, hn4, wf4, fit4, old4, len4, kp4, hP4⟩
    clear old4 len4
    -- ways out
    refine ⟨.ref n, rfl, n, _, rfl, .inl (SqL.of hn4), _, rfl, by rw [List.length_map]; omega, by rw [List.length_map]; omega, ?_⟩
    refine for_it walk_range (fun i σ H5 => ∃ (Pp : Pi) (y8 y11 y12 : Option V), σ = [some (.ref p), some (.int mo), some (.int hi), some (.ref a), some (.ref b), some (.ref n), y6, y7, y8, y9, y10, y11, y12, none] ∧ H5 a = some (.dK (bk B)) ∧ H5 b = some (.dT (pt Pp)) ∧
        Wf Nm B Pp ∧ Fit B Pp ∧ Few B Pp (B.length - i) ∧ Kp p H H5 ∧ PotAt H5 p)
      ⟨Pp, y8, none, none, rfl, ha4, hb4, wf4, fit4, few_all, kp4, hP4⟩ (fun _ _ _ _ _ => trivial) ?_ ?_
    · clear wf4 fit4 kp4 hP4 ha4 hb4 Pp
      rintro i x σ H5 H5' hi5 ⟨Pp, y8, y11, y12, rfl, ha5, hb5, wf5, fit5, few5, kp5, hP5⟩ ⟨rfl, rfl⟩
      have hi5' : i < B.length := by
        rw [List.length_map, nms_len] at hi5
        omega
      refine ⟨.ref a, rfl, .ref b, rfl, a, b, B, Pp, rfl, ha5, hb5, wf5, fit5, fun r L H6 s6 nr hr6 ndL memL => ?_⟩
      have nL : ∀ z ∈ L, Sm 25 z := fun z hz => by
        obtain ⟨u, hu', e⟩ := List.mem_map.mp ((memL z).mp hz).1
        rw [← (show u.1 = z from e)]
        exact (wf5.rb u hu').1.sm.mono (by decide)
      refine ⟨.ref r, rfl, Nat.zero_le _, fun e ne => ?_⟩
      have s7 : Same H6 (upd H6 e (.lst [])) := same_new ne
      have s57 := s6.trans s7
      obtain ⟨H7, hH7⟩ : ∃ H7, H7 = upd H6 e (.lst []) := ⟨_, rfl⟩
      refine ne_nil (s7 r _ hr6) upd_same nL ?_
      rw [← hH7] at s7 s57 ⊢
      have hP7 := hP5.same s57
      have hrp : r ≠ p := hP5.ne nr
      refine ⟨_, rfl, ite2 (fun c => ?_) (fun c => ?_)⟩
      · have hL0 : 0 < L.length := List.length_pos_iff.mpr fun z => by subst z; exact absurd c (by decide)
        have lL : L.length ≤ 12 := by
          have := len_le_of_sub ndL (m := nms B) fun z hz => ((memL z).mp hz).1
          omega
        refine ⟨.ref r, rfl, .ref p, rfl, .ref r, rfl, r, _, rfl, .inl (SqL.of (s7 r _ hr6)), p, _, rfl, hP7, by rw [List.length_map]; omega, by rw [List.length_map]; omega, fun d H8 k8 hP8 d0 d1 => ?_⟩
        rw [List.length_map] at d1
        obtain ⟨x, hx, mx⟩ := str_at d0 d1
        obtain ⟨mxB, cx⟩ := (memL x).mp mx
        refine ⟨r, _, d, .str x, rfl, rfl, SqL.of (k8 r _ hrp (s7 r _ hr6)), hx, ?_⟩
        have ha8 := k8 a _ hap (s57 a _ ha5)
        have hb8 := k8 b _ hbp (s57 b _ hb5)
        refine ⟨.ref b, rfl, .inr (.inr (.inl ⟨rfl, .inr ⟨_, hb8⟩⟩)), .ref b, rfl, b, pt Pp, Pp.map Prod.fst, rfl, .inl hb8, ?_, ?_, fun qs e8 pm _ hq ne8 => ?_⟩
        · unfold pt
          rw [List.map_map, List.map_map]; rfl
        · rw [List.length_map]; have := wf5.lp; omega
        have lq : qs.length ≤ 900 := by
          have h1 := pm.length_eq
          rw [List.length_map, List.length_map] at h1
          have := wf5.lp
          omega
        have s9 : Same H8 (upd H8 e8 (.lst (qs.map fun q => V.ref q.1))) := same_new ne8
        refine ⟨e8, rfl, ⟨_, SqL.of upd_same⟩, fun D nD => ?_⟩
        refine pair_lc (K := K) (z := x) lq upd_same nD (fun q hq' => s9 _ _ (hq q hq')) (fun _ => rfl) (fun _ => rfl) (fun _ => rfl) fun H9 hD9 sm9 => ?_
        have s89 := s9.trans sm9
        obtain ⟨y, v, hpipe⟩ := closed_pipe wf5 mxB cx
        cases hf : qs.filter fun q => decide (q.2.1 = x) with
        | nil =>
          have hm : (x, y) ∈ qs.map (·.2) := pm.mem_iff.mpr (List.mem_map.mpr ⟨_, hpipe, rfl⟩)
          obtain ⟨q0, hq0, e0⟩ := List.mem_map.mp hm
          have : q0 ∈ qs.filter fun q => decide (q.2.1 = x) := List.mem_filter.mpr ⟨hq0, decide_eq_true (by rw [e0])⟩
          rw [hf] at this
          exact absurd this List.not_mem_nil
        | cons q0 rest =>
          rw [hf] at hD9
          have hq0 : q0 ∈ qs.filter fun q => decide (q.2.1 = x) := by rw [hf]; exact List.mem_cons_self
          obtain ⟨m1, m2⟩ := List.mem_filter.mp hq0
          have e1 : q0.2.1 = x := of_decide_eq_true m2
          have hm : q0.2 ∈ Pp.map Prod.fst := pm.mem_iff.mp (List.mem_map.mpr ⟨q0, m1, rfl⟩)
          obtain ⟨pp, hpp, epp⟩ := List.mem_map.mp hm
          have epp' : pp.1 = q0.2 := epp
          have hpq : ((x, q0.2.2), pp.2) ∈ Pp := by
            have : pp = ((x, q0.2.2), pp.2) := by
              rw [← e1]
              show pp = (q0.2, pp.2)
              rw [← epp']
            rw [← this]; exact hpp
          have hT := s89 _ _ (hq q0 m1)
          rw [e1] at hT
          refine ⟨D, _, 0, .ref q0.1, rfl, rfl, SqL.of hD9, atI_nat (j := 0) rfl, b, pt Pp, Rl.pk (x, q0.2.2), q0.1, .int pp.2, rfl, rfl, s89 b _ hb8, hT, ?_, ?_⟩
          · rw [valV_pt, getP_of_mem wf5.np hpq]; rfl
          · rw [drop_pt]
            refine ⟨less Pp (x, q0.2.2), _, _, _, rfl, ?_, upd_same, wf_less wf5 _, fit_less wf5 fit5 _, ?_, ?_, ?_⟩
            · rw [upd_ne hab]; exact s89 a _ ha8
            · have : B.length - i = (B.length - (i + 1)) + 1 := by omega
              rw [this] at few5
              exact few_less wf5 fit5 hpq cx few5
            · intro c' o nc e'
              have ncb : c' ≠ b := ne_of_none e' nbH
              rw [upd_ne ncb]
              exact s89 c' o (k8 c' o nc (s57 c' o (kp5 c' o nc e')))
            · exact (hP8.same s89).put hbp
      · have hL : L = [] := by
          cases L with
          | nil => rfl
          | cons x y => exact absurd rfl c
        subst hL
        refine ⟨Pp, _, _, _, rfl, s57 a _ ha5, s57 b _ hb5, wf5, fit5, few_none (fun x hx => ?_) _, kp5.trans (Kp.of_same s57), hP7⟩
        by_cases o : Opn B Pp x
        · exact o
        · exact absurd ((memL x).mpr ⟨hx, o⟩) List.not_mem_nil
    · rintro σ H5 ⟨Pp, y8, y11, y12, rfl, ha5, hb5, wf5, fit5, few5, kp5, hP5⟩
      have e0 : B.length - (((((nms B).map V.str).length : Nat) : Int)).toNat = 0 := by
        rw [List.length_map, nms_len]; omega
      rw [e0] at few5
      refine ⟨.ref a, rfl, .ref b, rfl, line1000 (by show 2 ≤ 1000; decide), fun t nt => ?_⟩
      have st : Same H5 (upd H5 t (.tup [.ref a, .ref b])) := same_new nt
      have ntH : H t = none := by
        cases e : H t with
        | none => rfl
        | some o =>
          have htp : t ≠ p := hP5.ne nt
          have := kp5 t o htp e
          rw [nt] at this; cases this
      exact q t a b B Pp _ (kp5.trans (Kp.of_same st)) (hP5.same st) ntH na nbH upd_same (st a _ ha5) (st b _ hb5) ⟨wf5, fit5, few_zero few5⟩
end
end Nl
end
section
set_option maxHeartbeats 2000000
namespace Nl
open PySem PySem.Spec PyProof.Rows L2 Nt
section
variable {P : Program} {w : World} {K : PySem.W.Frag} {mg : Str → Option Value} {base : Heap}
theorem scSome : FnScope ["_law_pot_here", "_law_wide", "_law_far", "_law_found", "_law_one", "_law_way"] ["_law_pot_here", "_law_wide", "_law_far"] (defScope sSome) := ⟨rfl, rfl, rfl, by decide +kernel, rfl, by decide +kernel, by decide +kernel⟩
def spSome : Sp := fun vs H Q _ => ∃ (p a : Addr) (far : Int) (B : Br), vs = [.ref p, .ref a, .int far] ∧ PotAt H p ∧ H a = some (.dK (bk B)) ∧ B.length ≤ 12 ∧ (nms B).Nodup ∧ 0 < far ∧ far < 2 ^ 200 ∧
  ∀ (r : Addr) (Qd : Br) (H' : Hp), Kp p H H' → PotAt H' p → H r = none → H' r = some (.dK (bk Qd)) → (nms Qd).Nodup → (∀ x ∈ Qd, x.1 ∈ nms B ∧ 0 ≤ x.2 ∧ (x.2 < 400 ∨ x.2 < far)) → Q (.ref r) H'
theorem ok_some {f fD : Addr} {fd fdD : FuncData} (F : Fun K "_law_some" "_law_some" sSome f fd) (FD : Fun K "_law_draw" "_law_draw" sDraw fD fdD) (GD : FnOk P w K mg base CX0 1 fD fdD ["_law_pot_here", "_law_many"] spDraw) (bD : Binds K fdD ["_law_pot_here", "_law_many"] [])
    (gD : mg "_law_draw" = some (.ref fD)) (mso : mg "sorted" = none) : FnOk P w K mg base CX0 2 f fd ["_law_pot_here", "_law_wide", "_law_far"] spSome := by
  refine F.ok scSome (fun vs H Q E h => ?_) (fun cdv A outer s H vs Q E hr h => ?_)
  · obtain ⟨p, a, far, B, rfl, _⟩ := h
    rfl
  · obtain ⟨p, a, far, B, rfl, hP, hA, lB, ndB, far0, far1, q⟩ := h
    refine ⟨_, pss_cons (ps_set (i := 3) scSome.nd rfl (by first | exact .inl rfl | exact .inr rfl) pe_dnewK)
      (pss_cons (ps_for PassesOwn.never rfl (pi_list (pe_callB (call_sortedD rfl) (by rfl) mso (by decide +kernel) (pa_cons (pv 1) pa_nil))) (pg_name (i := 4) scSome.nd rfl (Or.inl rfl))
        (pss_cons (ps_set (i := 5) scSome.nd rfl (by first | exact .inl rfl | exact .inr rfl) (pe_call GD hr (by rfl) gD FD.kp bD .nil pass0 (pa_cons (pv 0) (pa_cons pe_int pa_nil))))
        (pss_one (ps_if (pt_cmpR op_gt (pv 5) pe_int (nomark _))
          (pss_one (ps_dput (hu_of hr) (pv 3) (pv 4) (pe_call GD hr (by rfl) gD FD.kp bD .nil pass0 (pa_cons (pv 0) (pa_cons (pe_ix ix_list (pe_lst (pa_cons pe_int (pa_cons pe_int (pa_cons pe_int (pa_cons pe_int (pa_cons (pv 2) pa_nil)))))) (pv 5) (fun _ _ => rfl)) pa_nil))) rfl)) pss_nil))))
      (pss_one (ps_ret (pv 3)))), ?_⟩
    refine fun D nD => ?_
    have hDp := hP.ne nD
    have s0 : Same H (upd H D (.dK [])) := same_new nD
    refine ⟨.ref a, rfl, a, bk B, nms B, rfl, .inl (s0 a _ hA), ?_, ?_, fun M r pm so nr => ?_⟩
    · unfold bk nms
      rw [List.map_map, List.map_map]; rfl
    · rw [nms_len]; omega
    have hP1 : PotAt (upd (upd H D (.dK [])) r (.lst (M.map V.str))) p := (hP.new nD).new nr
    have hrp : r ≠ p := (hP.new nD).ne nr
    have hDr : D ≠ r := ne_of_none upd_same nr
    have ndM : M.Nodup := pm.nodup_iff.mpr ndB
    have lM : M.length ≤ 12 := by rw [pm.length_eq, nms_len]; exact lB
    refine ⟨r, rfl, ⟨_, SqL.of upd_same⟩, ?_⟩
    refine for_it (walk_list (xs := M.map V.str)) (fun i σ H2 => ∃ (Qd : Br) (y4 y5 : Option V), σ = [some (.ref p), some (.ref a), some (.int far), some (.ref D), y4, y5] ∧ H2 D = some (.dK (bk Qd)) ∧ H2 r = some (.lst (M.map V.str)) ∧ Kp p H H2 ∧ PotAt H2 p ∧ (nms Qd).Nodup ∧ ∀ x ∈ Qd, x.1 ∈ M.take i ∧ 0 ≤ x.2 ∧ (x.2 < 400 ∨ x.2 < far))
      ⟨[], none, none, rfl, by rw [upd_ne hDr]; exact upd_same, upd_same, (Kp.new nD).trans (Kp.new nr), hP1, List.nodup_nil, fun x hx => absurd hx List.not_mem_nil⟩ (fun i σ H2 _ ⟨_, _, _, _, _, h, _⟩ => SqL.of h) ?_ ?_
    · rintro i x σ H2 H2' hi ⟨Qd, y4, y5, rfl, hD2, hr2, kp, hP2, ndQ, okQ⟩ ⟨rfl, hx⟩
      rw [List.getElem?_map] at hx
      cases hy : M[i]? with
      | none => rw [hy] at hx; cases hx
      | some z =>
        rw [hy] at hx
        have hx' : V.str z = x := Option.some.inj hx
        subst hx'
        have tk : M.take (i + 1) = M.take i ++ [z] := by rw [List.take_add_one, hy]; rfl
        have fr : z ∉ nms Qd := fun hz => by
          obtain ⟨v, hv, e⟩ := List.mem_map.mp hz
          have := (okQ v hv).1
          rw [show v.1 = z from e] at this
          exact take_nd ndM hy this
        have up : ∀ x ∈ Qd, x.1 ∈ M.take (i + 1) ∧ 0 ≤ x.2 ∧ (x.2 < 400 ∨ x.2 < far) := fun x hx => ⟨by rw [tk]; exact List.mem_append_left _ (okQ x hx).1, (okQ x hx).2⟩
        refine ⟨.ref p, rfl, p, 5, rfl, hP2, by decide, by decide, fun d H3 k3 hP3 d0 d1 => ?_⟩
        refine ⟨.int d, rfl, d, 0, rfl, rfl, _, rfl, ite2 (fun c => ?_) (fun c => ?_)⟩
        · have c0 : 0 < d := of_decide_eq_true c
          refine ⟨.ref p, rfl, .int far, rfl, line1000 (by show 5 ≤ 1000; decide), fun l nl => ?_⟩
          have hm : ∃ m : Int, atI [V.int 1, V.int 8, V.int 70, V.int 400, V.int far] d = some (.int m) ∧ 0 < m ∧ m < 2 ^ 200 ∧ (m ≤ 400 ∨ m = far) := by
            have : d = 1 ∨ d = 2 ∨ d = 3 ∨ d = 4 := by omega
            rcases this with rfl | rfl | rfl | rfl
            · exact ⟨8, atI_nat (j := 1) rfl, by decide, by decide, .inl (by decide)⟩
            · exact ⟨70, atI_nat (j := 2) rfl, by decide, by decide, .inl (by decide)⟩
            · exact ⟨400, atI_nat (j := 3) rfl, by decide, by decide, .inl (by decide)⟩
            · exact ⟨far, atI_nat (j := 4) rfl, far0, far1, .inr rfl⟩
          obtain ⟨m, hm, m0, m1, m2⟩ := hm
          refine ⟨.int d, rfl, l, _, d, .int m, rfl, rfl, SqL.of upd_same, hm, p, m, rfl, hP3.new nl, m0, m1, fun v H4 k4 hP4 v0 v1 => ?_⟩
          have hD4 := k4 D _ hDp (same_new nl D _ (k3 D _ hDp hD2))
          have lQ : Qd.length ≤ 12 := by
            have h1 := len_le_of_sub ndQ (m := M) (fun x hx => by
              obtain ⟨v, hv, e⟩ := List.mem_map.mp hx
              rw [← e]
              exact List.mem_of_mem_take (okQ v hv).1)
            rw [nms_len] at h1
            omega
          refine ⟨.ref D, rfl, .str z, rfl, D, _, rfl, DPut.k (k := Sum.inr z) hD4 (by rw [bk_len]; exact small1000 (by omega)), Qd ++ [(z, v)], some (.str z), some (.int d), rfl, ?_, ?_, ?_, ?_, ?_, ?_⟩
          · rw [upd_same, putK_bk fr]
          · rw [upd_ne (Ne.symm hDr)]; exact k4 r _ hrp (same_new nl r _ (k3 r _ hrp hr2))
          · intro b o nb e
            have nb1 : b ≠ D := ne_of_none e nD
            rw [upd_ne nb1]; exact k4 b o nb (same_new nl b _ (k3 b o nb (kp b o nb e)))
          · exact hP4.put hDp
          · rw [nms_append]
            refine List.nodup_append.mpr ⟨ndQ, List.nodup_cons.mpr ⟨List.not_mem_nil, .nil⟩, fun u mu t mt => ?_⟩
            have et : t = z := by simpa [nms] using mt
            exact fun e => fr (by rw [← et, ← e]; exact mu)
          · intro x hx
            rcases List.mem_append.mp hx with h | h
            · exact up x h
            · have : x = (z, v) := by simpa using h
              subst this
              refine ⟨by rw [tk]; exact List.mem_append_right _ (List.mem_singleton.mpr rfl), v0, ?_⟩
              show v < 400 ∨ v < far
              rcases m2 with h | h <;> omega
        · exact ⟨Qd, some (.str z), some (.int d), rfl, k3 D _ hDp hD2, k3 r _ hrp hr2, kp.trans k3, hP3, ndQ, up⟩
    · rintro σ H2 ⟨Qd, y4, y5, rfl, hD2, hr2, kp, hP2, ndQ, okQ⟩
      refine ⟨.ref D, rfl, q D Qd H2 kp hP2 nD hD2 ndQ fun x hx => ⟨?_, (okQ x hx).2⟩⟩
      exact pm.mem_iff.mp (List.mem_of_mem_take (okQ x hx).1)
end
end Nl
end
section
set_option maxHeartbeats 2000000
namespace Nl
open PySem PySem.Spec PyProof.Rows L2 Nt
theorem mt_zfill {X : Cx} : MtR X "str.zfill" (fun x xs H Q => ∃ (a : Str) (i : Int), x = .str a ∧ xs = [.int i] ∧ PadOk i = true ∧ Q (.str (Txt.zfill a i)) H) := by
  intro pins s σ H x xs v us Q I rx rs h
  obtain ⟨a, i, rfl, rfl, hp, q⟩ := h
  obtain ⟨t, rfl⟩ := rx
  obtain ⟨u, rfl, tu, rfl⟩ := vals1 rs
  exact SC.zfill hp fun t' k => ⟨.str _, H, I.tok _, ⟨_, rfl⟩, q⟩
theorem div_less {n p : Int} (hp : 2 ≤ p) (hn : p ≤ n) : n / p < n ∧ 0 ≤ n / p := by
  refine ⟨Int.ediv_lt_of_lt_mul (by omega) ?_, Int.ediv_nonneg (by omega) (by omega)⟩
  have := Int.mul_le_mul_of_nonneg_left hp (show 0 ≤ n by omega)
  omega
@[irreducible] def PT : Int := 10 ^ 64
theorem PT_eq : PT = 10 ^ 64 := by unfold PT; rfl
theorem PT2 : 2 ≤ PT := by rw [PT_eq]; decide +kernel
theorem PT0 : 0 < PT := by rw [PT_eq]; decide +kernel
theorem dec_help {n p : Int} (hp : 2 ≤ p) (h : ¬ n < p) : (n / p).toNat < n.toNat := by
  have := div_less hp (show p ≤ n by omega)
  omega
def zf (n : Int) : Str := Txt.zfill (Str.ofString (toString n)) 64
/-- a number's parts of 64 figures, the lowest first -/
def figs (n : Int) : List Str := if h : n < PT then [Str.ofString (toString n)] else zf (n % PT) :: figs (n / PT)
termination_by n.toNat
decreasing_by exact dec_help PT2 h
def figOf (n : Int) : Str := Txt.join Str.empty (figs n).reverse
theorem figs_lt {n : Int} (h : n < PT) : figs n = [Str.ofString (toString n)] := by rw [figs, dif_pos h]
theorem figs_ge {n : Int} (h : ¬ n < PT) : figs n = zf (n % PT) :: figs (n / PT) := by rw [figs, dif_neg h]
theorem figs_len (k : Nat) : ∀ {n : Int}, 0 ≤ n → n < PT ^ (k + 1) → (figs n).length ≤ k + 1 := by
  induction k with
  | zero =>
    intro n h0 h
    rw [figs_lt (by rw [Int.pow_succ, Int.pow_zero, Int.one_mul] at h; exact h)]
    exact Nat.le_refl _
  | succ k ih =>
    intro n h0 h
    by_cases c : n < PT
    · rw [figs_lt c]
      exact Nat.succ_le_succ (Nat.zero_le _)
    · rw [figs_ge c]
      have d := div_less (n := n) (p := PT) PT2 (by omega)
      have := ih d.2 (Int.ediv_lt_of_lt_mul PT0 (by rw [← Int.pow_succ]; exact h))
      rw [List.length_cons]; omega
theorem zf_len {n : Int} (h0 : 0 ≤ n) (h : n < PT) : (zf n).length ≤ 64 := by
  have d := toString_length_le h0 (k := 64) (by decide) (by rw [PT_eq] at h; exact h)
  unfold zf Txt.zfill
  split
  · exact d
  · rename_i hc
    unfold zfilled
    obtain ⟨x, hx⟩ : ∃ x, x = Str.ofString (toString n) := ⟨_, rfl⟩
    rw [← hx] at d hc ⊢
    have key : ∀ c, x.cps[0]? = some c → 1 ≤ x.length := fun c hc => (Array.getElem?_eq_some_iff.mp hc).1
    have hc2 : x.length < 64 := by omega
    split
    · rename_i hc'
      have h2 := key _ hc'
      rw [size_cat, size_padded, size_strSub x 0 1 h2, size_strSub x 1 x.length (Nat.le_refl _)]; omega
    · rename_i hc'
      have h2 := key _ hc'
      rw [size_cat, size_padded, size_strSub x 0 1 h2, size_strSub x 1 x.length (Nat.le_refl _)]; omega
    · rw [size_padded]; omega
theorem figs_el : ∀ (k : Nat) {n : Int}, 0 ≤ n → n.toNat ≤ k → ∀ x ∈ figs n, x.length ≤ 64
  | 0, n, h0, hk, x, hx => by
    have e : n = 0 := by omega
    subst e
    rw [figs_lt PT0] at hx
    have : x = Str.ofString (toString (0 : Int)) := by simpa using hx
    rw [this]
    exact toString_length_le (v := 0) (Int.le_refl _) (by decide) (by decide +kernel)
  | k + 1, n, h0, hk, x, hx => by
    by_cases c : n < PT
    · rw [figs_lt c] at hx
      have : x = Str.ofString (toString n) := by simpa using hx
      rw [this]
      exact toString_length_le h0 (by decide) (by rw [PT_eq] at c; exact c)
    · rw [figs_ge c] at hx
      have d := div_less (n := n) (p := PT) PT2 (by omega)
      rcases List.mem_cons.mp hx with e | hx
      · rw [e]
        exact zf_len (Int.emod_nonneg _ (by have := PT0; omega)) (Int.emod_lt_of_pos _ PT0)
      · exact figs_el k d.2 (by have := d.1; omega) x hx
theorem pt_log {n : Int} (h0 : 0 ≤ n) (h : n < PT) : n.natAbs.log2 < 1920 := by
  by_cases e : n.natAbs = 0
  · rw [e]; decide
  · rw [Nat.log2_lt e]
    rw [PT_eq] at h
    have : (10 : Nat) ^ 64 ≤ 2 ^ 1920 := by decide +kernel
    refine Nat.lt_of_lt_of_le ?_ this
    have h2 : ((n.natAbs : Nat) : Int) < ((10 ^ 64 : Nat) : Int) := by
      rw [Int.natAbs_of_nonneg h0]
      exact h
    exact Int.ofNat_lt.mp h2
theorem pt_div {n : Int} : CDivP n PT := by
  refine ⟨PT0, ?_⟩
  have hl : PT.natAbs.log2 < 300 := by rw [PT_eq]; decide +kernel
  have hd : PT.natAbs.log2 / 30 ≤ 10 := by omega
  unfold Builtin.divisionGoesByPylong
  simp only [Bool.and_eq_true, decide_eq_true_eq, Bool.and_eq_false_iff, decide_eq_false_iff_not]
  split <;> first | (left; omega) | omega | simp
theorem sum64 : ∀ l : List Str, (∀ x ∈ l, x.length ≤ 64) → (l.map (·.length)).sum ≤ 64 * l.length
  | [], _ => Nat.le_refl _
  | x :: l, h => by
    have h1 := sum64 l fun y hy => h y (List.mem_cons_of_mem _ hy)
    have h2 := h x List.mem_cons_self
    rw [List.map_cons, List.sum_cons, List.length_cons]
    omega
section
variable {P : Program} {w : World} {K : PySem.W.Frag} {mg : Str → Option Value} {base : Heap}
theorem scFig : FnScope ["number", "parts", "low"] ["number"] (defScope s_figures) := ⟨rfl, rfl, rfl, by decide +kernel, rfl, by decide +kernel, by decide +kernel⟩
def spFig : Sp := fun vs H Q _ => ∃ n : Int, vs = [.int n] ∧ 0 ≤ n ∧ n < PT ^ 20 ∧ ∀ H', Same H H' → Q (.str (figOf n)) H'
theorem ok_fig {f : Addr} {fd : FuncData} {k : Nat} {tp tf : Tok} (F : Fun K "figures" "figures" s_figures f fd) (gP : mg "PART" = some (.int PT tp)) (gF : mg "PART_FIGURES" = some (.int 64 tf)) (md : mg "divmod" = none) (ms : mg "str" = none) :
    FnOk P w K mg base CX0 (k + 1) f fd ["number"] spFig := by
  refine F.ok scFig (fun vs H Q E h => ?_) (fun cdv A outer s H vs Q E hr h => ?_)
  · obtain ⟨n, rfl, _⟩ := h
    rfl
  · obtain ⟨n, rfl, n0, n20, q⟩ := h
    refine ⟨_, pss_cons (ps_if (pt_cmpR op_lt (pv 0) pe_int (nomark _)) (pss_one ps_never) pss_nil)
      (pss_cons (ps_set (i := 1) scFig.nd rfl (by first | exact .inl rfl | exact .inr rfl) (pe_lst pa_nil))
      (pss_cons (ps_while PassesOwn.never (pt_cmpR op_ge (pv 0) (pe_glob (v := .int PT) rfl gP ⟨_, rfl⟩) (nomark _))
        (pss_cons (ps_asg (pe_callB call_divmodW (by rfl) md (by decide +kernel) (pa_cons (pv 0) (pa_cons (pe_glob (v := .int PT) rfl gP ⟨_, rfl⟩) pa_nil))) (pg_tup rfl (pgs_cons (pg_name (i := 0) scFig.nd rfl (by first | exact .inl rfl | exact .inr rfl)) (pgs_cons (pg_name (i := 2) scFig.nd rfl (by first | exact .inl rfl | exact .inr rfl)) pgs_nil))))
        (pss_one (ps_expr (pe_bm PySem.F.plainAttrs_list PySem.F.slot_list_append PySem.F.type_list_append mt_append (pv 1) (pa_cons (pe_bm PySem.F.plainAttrs_str PySem.F.slot_str_zfill PySem.F.type_str_zfill mt_zfill (pe_callTy (T := "str") call_str_int (by rfl) ms (by decide +kernel) (pa_cons (pv 2) pa_nil)) (pa_cons (pe_glob (v := .int 64) rfl gF ⟨_, rfl⟩) pa_nil)) pa_nil))))))
      (pss_cons (ps_expr (pe_bm PySem.F.plainAttrs_list PySem.F.slot_list_append PySem.F.type_list_append mt_append (pv 1) (pa_cons (pe_callTy (T := "str") call_str_int (by rfl) ms (by decide +kernel) (pa_cons (pv 0) pa_nil)) pa_nil)))
      (pss_one (ps_ret (pe_join pe_str (pe_revL (pv 1)))))))), ?_⟩
    have fl : (figs n).length ≤ 20 := figs_len 19 n0 n20
    have fe := figs_el n.toNat n0 (Nat.le_refl _)
    refine ⟨.int n, rfl, n, 0, rfl, rfl, _, rfl, ?_⟩
    rw [decide_eq_false (show ¬ n < 0 by omega)]
    refine iteF ⟨Nat.zero_le _, fun r nr => ?_⟩
    have put : ∀ {H1 : Hp} {o : HO}, Same H H1 → Same H (upd H1 r o) := fun {H1 o} s x u e => by
      rw [upd_ne (ne_of_none e nr)]; exact s x u e
    refine ⟨fun m σ H4 => ∃ (m0 : Int) (ps : List Str) (y2 : Option V), σ = [some (.int m0), some (.ref r), y2] ∧ Same H H4 ∧ H4 r = some (.lst (ps.map V.str)) ∧ 0 ≤ m0 ∧ ps ++ figs m0 = figs n ∧ m = m0.toNat,
      ⟨_, n, [], none, rfl, same_new nr, upd_same, n0, rfl, rfl⟩, ?_⟩
    rintro m σ H4 ⟨m0, ps, y2, rfl, s4, hr4, h0, ep, rfl⟩
    have lp : ps.length ≤ 20 := by
      have := congrArg List.length ep
      rw [List.length_append] at this
      omega
    refine ⟨.int m0, rfl, m0, PT, rfl, rfl, _, rfl, ?_⟩
    refine ite2 (fun c => ?_) (fun c => ?_)
    · have c := of_decide_eq_true c
      have nl : ¬ m0 < PT := by omega
      have d := div_less PT2 c
      refine ⟨fun σ' H' => ∃ m', m' < m0.toNat ∧ ∃ (m0 : Int) (ps : List Str) (y2 : Option V), σ' = [some (.int m0), some (.ref r), y2] ∧ Same H H' ∧ H' r = some (.lst (ps.map V.str)) ∧ 0 ≤ m0 ∧ ps ++ figs m0 = figs n ∧ m' = m0.toNat, fun σ' H' h => h, ?_⟩
      refine ⟨.int m0, rfl, m0, PT, rfl, pt_div, fun T nT => ?_⟩
      have sT := same_new (o := .tup [.int (m0 / PT), .int (m0 % PT)]) nT
      have hr5 := sT r _ hr4
      have e0 := Int.emod_nonneg m0 (show PT ≠ 0 by have := PT0; omega)
      have e1 := Int.emod_lt_of_pos m0 PT0
      refine ⟨T, [.int (m0 / PT), .int (m0 % PT)], rfl, SqT.of upd_same, rfl, .int (m0 / PT), [.int (m0 % PT)], rfl, .int (m0 % PT), [], rfl, rfl, ?_⟩
      refine ⟨.ref r, rfl, .inl ⟨rfl, _, SqL.of hr5⟩, .int (m0 % PT), rfl, m0 % PT, rfl, pt_log e0 e1, rfl, _, 64, rfl, rfl, by decide, ?_⟩
      refine ⟨r, _, _, rfl, rfl, hr5, by rw [List.length_map]; exact small1000 (by omega), ?_⟩
      refine ⟨_, dec_help PT2 nl, m0 / PT, ps ++ [zf (m0 % PT)], _, rfl, put (s4.trans sT), ?_, d.2, ?_, rfl⟩
      · rw [upd_same, List.map_append]; rfl
      · rw [List.append_assoc, ← ep, figs_ge nl]; rfl
    · have c : ¬ m0 ≥ PT := fun h => c (decide_eq_true h)
      have lt : m0 < PT := by omega
      have eN : ps ++ [Str.ofString (toString m0)] = figs n := by rw [← ep, figs_lt lt]
      refine ⟨.ref r, rfl, .inl ⟨rfl, _, SqL.of hr4⟩, .int m0, rfl, m0, rfl, pt_log h0 lt, ?_⟩
      refine ⟨r, _, _, rfl, rfl, hr4, by rw [List.length_map]; exact small1000 (by omega), ?_⟩
      refine ⟨⟨_, rfl⟩, .ref r, rfl, r, _, rfl, SqL.of upd_same, fun p np => ?_⟩
      have sp := same_new (o := .lst (ps.map V.str ++ [V.str (Str.ofString (toString m0))]).reverse) np
      have eR : (ps.map V.str ++ [V.str (Str.ofString (toString m0))]).reverse = (figs n).reverse.map V.str := by
        rw [← eN, List.map_reverse, List.map_append]; rfl
      refine ⟨Str.empty, p, (figs n).reverse, rfl, rfl, .inl (SqL.of (by rw [upd_same, ← eR])), ?_, ?_⟩
      · have h1 := sum64 (figs n).reverse fun x hx => fe x (List.mem_reverse.mp hx)
        rw [List.length_reverse] at h1 ⊢
        have h2 : (Str.empty).length = 0 := rfl
        rw [h2]
        omega
      · exact q _ ((put s4).trans sp)
end
end Nl
end
section
set_option maxHeartbeats 2000000
namespace Nl
open PySem PySem.Spec PyProof.Rows L2
/-! ### a list or a tuple -/
def hoE (b : Bool) (xs : List V) : HO := match b with | true => .lst xs | false => .tup xs
def LtAt (H : Hp) (b : Bool) (l : Addr) (L : List Str) : Prop := H l = some (hoE b (L.map V.str))
theorem LtAt.same {H H' : Hp} {b : Bool} {l : Addr} {L : List Str} (h : LtAt H b l L) (s : Same H H') : LtAt H' b l L := s l _ h
def SqE (K : PySem.W.Frag) (b : Bool) (H : Hp) (a : Addr) (xs : List V) : Prop := match b with | true => SqL K H a xs | false => SqT K H a xs
theorem LtAt.sq {K : PySem.W.Frag} {H : Hp} {b : Bool} {l : Addr} {L : List Str} (h : LtAt H b l L) : SqE K b H l (L.map V.str) := by
  cases b
  · exact SqT.of h
  · exact SqL.of h
theorem SqE.or {K : PySem.W.Frag} {b : Bool} {H : Hp} {a : Addr} {xs : List V} (h : SqE K b H a xs) : SqL K H a xs ∨ SqT K H a xs := by
  cases b
  · exact .inr h
  · exact .inl h
def Itei (K : PySem.W.Frag) (b : Bool) (a : Addr) : It := match b with | true => Itl K a | false => Itt K a
theorem walk_e {K : PySem.W.Frag} {b : Bool} {a : Addr} {xs : List V} : Walk (Itei K b a) xs.length (fun H => SqE K b H a xs) (fun i H x H' => H' = H ∧ xs[i]? = some x) := by
  cases b
  · exact walk_tup
  · exact walk_list
def iEi (K : PySem.W.Frag) (tl : TE) : TI := fun σ H R => tl σ H fun x H1 => ∃ a b, x = .ref a ∧ (∃ xs, SqE K b H1 a xs) ∧ R (Itei K b a) H1
theorem pi_ei {X : Cx} {tg l : Expr} {tl : TE} (hl : PE X l tl) : PI X tg l (iEi X.K tl) := by
  refine ⟨fun pins s σ H R I h => ?_⟩
  refine thn (hl.run pins s σ H _ I h) fun v s1 ⟨x, H1, I1, r1, q1⟩ => ?_
  obtain ⟨a, b, e, ⟨xs, hq⟩, q⟩ := q1
  subst e
  cases r1
  cases b with
  | true =>
    obtain ⟨its, rv, p, hz⟩ := I1.list hq
    refine wpAny_pyIter_list p.isList ?_
    refine ⟨s1.heap.objs.size, [s1.heap.objs.size], _, _, H1, rfl, I1.kept (t' := s1.toks) fun b o e => Heap.get?_push_of_some _ e, turn_list a _, ⟨_, Heap.get?_push_size _ rfl, rfl, rfl⟩, fun b hb => ?_, q⟩
    have e : b = s1.heap.objs.size := by simpa using hb
    subst e
    exact I1.fpOk (Nat.le_refl _) (I1.hok.fresh (Nat.le_refl _))
  | false =>
    obtain ⟨its, rv, p, hz⟩ := I1.tuple hq
    refine wpAny_pyIter_tuple p ?_
    refine ⟨s1.heap.objs.size, [s1.heap.objs.size], _, _, H1, rfl, I1.kept (t' := s1.toks) fun b o e => Heap.get?_push_of_some _ e, turn_tuple a _, ⟨_, Heap.get?_push_size _ rfl, rfl, rfl⟩, fun b hb => ?_, q⟩
    have e : b = s1.heap.objs.size := by simpa using hb
    subst e
    exact I1.fpOk (Nat.le_refl _) (I1.hok.fresh (Nat.le_refl _))
section
variable {P : Program} {w : World} {K : PySem.W.Frag} {mg : Str → Option Value} {base : Heap} {CX : CXT} {k : Nat} {f : Addr} {fd : FuncData} {ps : List Str} {sp sp' : Sp}
/-- a weaker promise -/
theorem fnokW (F : FnOk P w K mg base CX k f fd ps sp) (h : ∀ vs H Q E, sp' vs H Q E → sp vs H Q E) : FnOk P w K mg base CX k f fd ps sp' :=
  ⟨fun vs H Q E q => F.len vs H Q E (h _ _ _ _ q), fun A outer s H args us vs Q E hr e0 hb r q => F.run A outer s H args us vs Q E hr e0 hb r (h _ _ _ _ q)⟩
end
end Nl
end
section
set_option maxHeartbeats 2000000
namespace Nl
open PySem PySem.Spec PyProof.Rows L2 Nt PySem.NumText PySem.W.KIN
/-! ### figures are what str writes -/
def dg (m : Nat) : List Nat := (Nat.toDigits 10 m).map Char.toNat
theorem dg_all (m : Nat) : AllDigits (dg m) := fun c hc => by
  obtain ⟨ch, hch, e⟩ := List.mem_map.mp hc
  have r := digit_range (Nat.isDigit_of_mem_toDigits (by decide) (by decide) hch)
  rw [← e]
  exact r
theorem ofNat_toNat {l : List Nat} (h : AllDigits l) : (l.map Char.ofNat).map Char.toNat = l := by
  induction l with
  | nil => rfl
  | cons c l ih =>
    have hc := h c List.mem_cons_self
    rw [List.map_cons, List.map_cons, ih fun d hd => h d (List.mem_cons_of_mem _ hd)]
    have : ∀ d, d ≤ 57 → (Char.ofNat d).toNat = d := by decide
    rw [this c hc.2]
theorem dg_val (m : Nat) : digitsVal (dg m) = m := val_back m
theorem dg_ne (m : Nat) : dg m ≠ [] := fun e => by
  have := congrArg List.length e
  unfold dg at this
  rw [List.length_map, List.length_nil] at this
  have h2 := tDigits_len_ge 10 m
  omega
/-- figures without noughts ahead are those of their number -/
theorem dg_uniq {cs : List Nat} (h : AllDigits cs) (hh : ∃ c r, cs = c :: r ∧ 49 ≤ c) : dg (digitsVal cs) = cs := by
  obtain ⟨c, r, rfl, hc⟩ := hh
  unfold dg
  rw [toDigits_digitsVal r.length (c :: r) rfl h (.inr ⟨c, r, rfl, hc⟩), ofNat_toNat h]
theorem dg_head {m : Nat} (h : 0 < m) : ∃ c r, dg m = c :: r ∧ 49 ≤ c := by
  have al := toDigits_all (dg m) (dg_all m)
  rw [dg_val] at al
  cases e : (dg m).dropWhile (· == 48) with
  | nil =>
    rw [e] at al
    have : dg m = [48] := by unfold dg; rw [al]; rfl
    have v := dg_val m
    rw [this] at v
    have : m = 0 := v.symm
    omega
  | cons c r =>
    rw [e] at al
    have hs : AllDigits (c :: r) := fun d hd => dg_all m d ((List.dropWhile_sublist _).mem (by rw [e]; exact hd))
    have e2 : dg m = c :: r := by
      have := ofNat_toNat hs
      unfold dg
      rw [al]
      exact this
    refine ⟨c, r, e2, ?_⟩
    have hc := (hs c List.mem_cons_self).1
    have : ¬ c = 48 := fun z => by
      have := List.head_dropWhile_not (p := fun x : Nat => x == 48) (l := dg m) (by rw [e]; exact List.cons_ne_nil _ _)
      simp only [e, List.head_cons] at this
      rw [z] at this
      simp at this
    omega
theorem foldl_mul : ∀ (ys : List Nat) (a : Nat), ys.foldl (fun acc c => acc * 10 + (c - 48)) a = a * 10 ^ ys.length + digitsVal ys
  | [], a => by simp [digitsVal]
  | c :: ys, a => by
    rw [List.foldl_cons, foldl_mul ys]
    unfold digitsVal
    rw [List.foldl_cons, foldl_mul ys (0 * 10 + (c - 48)), List.length_cons, Nat.pow_succ]
    rw [Nat.zero_mul, Nat.zero_add, Nat.add_mul, Nat.mul_assoc, Nat.mul_comm 10 (10 ^ ys.length), Nat.add_assoc]
    rfl
theorem digitsVal_append (xs ys : List Nat) : digitsVal (xs ++ ys) = digitsVal xs * 10 ^ ys.length + digitsVal ys := by
  show (xs ++ ys).foldl _ 0 = _
  rw [List.foldl_append, foldl_mul]
  rfl
theorem digitsVal_noughts (k : Nat) (cs : List Nat) : digitsVal (List.replicate k 48 ++ cs) = digitsVal cs := by
  induction k with
  | zero => rfl
  | succ k ih => rw [List.replicate_succ, List.cons_append, digitsVal_zero, ih]
theorem cps_num {n : Int} (h : 0 ≤ n) : (Str.ofString (toString n)).cps.toList = dg n.toNat := by
  obtain ⟨m, rfl⟩ := Int.eq_ofNat_of_zero_le h
  exact signs_num m
theorem dg_len {m k : Nat} (hk : 1 ≤ k) (h : m < 10 ^ k) : (dg m).length ≤ k := by
  unfold dg
  rw [List.length_map]
  exact digits10_le hk h
theorem zf_cps {n : Int} (h0 : 0 ≤ n) (h : n < PT) : ∃ k, (zf n).cps.toList = List.replicate k 48 ++ dg n.toNat ∧ (List.replicate k 48 ++ dg n.toNat).length = 64 := by
  have hn : n.toNat < 10 ^ 64 := by
    rw [PT_eq] at h
    have e : ((n.toNat : Nat) : Int) < ((10 ^ 64 : Nat) : Int) := by rw [Int.toNat_of_nonneg h0]; exact h
    exact Int.ofNat_lt.mp e
  have l64 := dg_len (m := n.toNat) (k := 64) (by decide) hn
  have c0 := cps_num h0
  have len : (Str.ofString (toString n)).length = (dg n.toNat).length := by rw [← c0]; exact (Array.length_toList).symm
  have i64 : (64 : Int).toNat = 64 := rfl
  unfold zf Txt.zfill
  split
  · rename_i hc
    refine ⟨0, by rw [c0]; rfl, ?_⟩
    rw [List.replicate_zero, List.nil_append]
    rw [len] at hc
    omega
  · rename_i hc
    refine ⟨64 - (dg n.toNat).length, ?_, by rw [List.length_append, List.length_replicate]; omega⟩
    have pad : (Builtin.Str.padded (Str.ofString (toString n)) ((64 : Int).toNat - (Str.ofString (toString n)).length) 0 48).cps.toList = List.replicate (64 - (dg n.toNat).length) 48 ++ dg n.toNat := by
      show (Array.replicate _ 48 ++ (Str.ofString (toString n)).cps ++ Array.replicate 0 48).toList = _
      rw [Array.toList_append, Array.toList_append, Array.toList_replicate, Array.toList_replicate, c0, len]
      simp
    unfold zfilled
    have hd : ∀ c, (Str.ofString (toString n)).cps[0]? = some c → 48 ≤ c := fun c hc => by
      have : c ∈ (Str.ofString (toString n)).cps.toList := by
        rw [← Array.getElem?_toList] at hc
        exact List.mem_of_getElem? hc
      rw [c0] at this
      exact (dg_all _ c this).1
    split
    · rename_i hc'
      exact absurd (hd _ hc') (by decide)
    · rename_i hc'
      exact absurd (hd _ hc') (by decide)
    · exact pad
theorem join_cps : ∀ l : List Str, (Str.join Str.empty l).cps.toList = (l.map fun x => x.cps.toList).flatten
  | [] => rfl
  | [x] => by simp [Str.join]
  | x :: y :: l => by
    have := join_cps (y :: l)
    show (x ++ Str.empty ++ Str.join Str.empty (y :: l)).cps.toList = _
    rw [Str.cps_append, Str.cps_append, Array.toList_append, Array.toList_append, this]
    show x.cps.toList ++ [] ++ _ = _
    rw [List.append_nil]
    rfl
theorem one_cps (x : Str) : (([x] : List Str).reverse.map fun y => y.cps.toList).flatten = x.cps.toList := by
  simp only [List.reverse_singleton, List.map_cons, List.map_nil, List.flatten_cons, List.flatten_nil, List.append_nil]
theorem figs_cps : ∀ (k : Nat) {n : Int}, 0 ≤ n → n.toNat ≤ k → ((figs n).reverse.map fun x => x.cps.toList).flatten = dg n.toNat
  | 0, n, h0, hk => by
    have e : n = 0 := by omega
    subst e
    rw [figs_lt PT0, one_cps]
    exact cps_num (Int.le_refl 0)
  | k + 1, n, h0, hk => by
    by_cases c : n < PT
    · rw [figs_lt c, one_cps]
      exact cps_num h0
    · rw [figs_ge c, List.reverse_cons, List.map_append, List.flatten_append]
      have d := div_less (n := n) (p := PT) PT2 (by omega)
      rw [figs_cps k d.2 (by have := d.1; omega)]
      have e0 := Int.emod_nonneg n (show PT ≠ 0 by have := PT0; omega)
      have e1 := Int.emod_lt_of_pos n PT0
      obtain ⟨j, h1, h2⟩ := zf_cps e0 e1
      rw [show ((List.map (fun x : Str => x.cps.toList) [zf (n % PT)]).flatten) = (zf (n % PT)).cps.toList by simp, h1]
      have qpos : 0 < (n / PT).toNat := by
        have : 1 ≤ n / PT := (Int.le_ediv_iff_mul_le PT0).mpr (by omega)
        omega
      obtain ⟨c1, r1, e3, hc1⟩ := dg_head qpos
      have al : AllDigits (dg (n / PT).toNat ++ (List.replicate j 48 ++ dg (n % PT).toNat)) := fun x hx => by
        rcases List.mem_append.mp hx with hx | hx
        · exact dg_all _ x hx
        rcases List.mem_append.mp hx with hx | hx
        · rw [(List.mem_replicate.mp hx).2]; exact ⟨by decide, by decide⟩
        · exact dg_all _ x hx
      have u := dg_uniq al ⟨c1, r1 ++ (List.replicate j 48 ++ dg (n % PT).toNat), by rw [e3]; rfl, hc1⟩
      rw [digitsVal_append, digitsVal_noughts, dg_val, dg_val, h2] at u
      rw [← u]
      congr 1
      have e4 : ((n.toNat : Nat) : Int) = n := Int.toNat_of_nonneg h0
      have e5 : (((n / PT).toNat : Nat) : Int) = n / PT := Int.toNat_of_nonneg d.2
      have e6 : (((n % PT).toNat : Nat) : Int) = n % PT := Int.toNat_of_nonneg e0
      have e7 : PT = ((10 ^ 64 : Nat) : Int) := by rw [PT_eq]; rfl
      have e8 := Int.ediv_mul_add_emod n PT
      have : (((n / PT).toNat * 10 ^ 64 + (n % PT).toNat : Nat) : Int) = ((n.toNat : Nat) : Int) := by
        rw [Int.natCast_add, Int.natCast_mul, e4, e5, e6, ← e7]
        exact e8
      exact Int.ofNat_inj.mp this
theorem str_extF {x y : Str} (h : x.cps.toList = y.cps.toList) : x = y := by
  cases x
  cases y
  congr
  exact Array.toList_inj.mp h
theorem fig_str {n : Int} (h : 0 ≤ n) : figOf n = Str.ofString (toString n) := str_extF (by
  unfold figOf
  rw [TL.join_eq, join_cps, figs_cps n.toNat h (Nat.le_refl _), cps_num h])
/-- below nought -/
theorem neg_str {n : Int} (h : n < 0) : Str.ofString (toString n) = Str.ofString "-" ++ Str.ofString (toString (-n)) := str_extF (by
  obtain ⟨m, hm⟩ : ∃ m : Nat, n = Int.negSucc m := by
    cases n with
    | ofNat m => exact absurd h (by show ¬ (Int.ofNat m < 0); simp)
    | negSucc m => exact ⟨m, rfl⟩
  subst hm
  rw [Str.cps_append, Array.toList_append, signs_ofString, signs_ofString, signs_ofString]
  show ("-" ++ Nat.repr (m + 1)).toList.map Char.toNat = _
  rw [String.toList_append, List.map_append]
  rfl)
section
variable {P : Program} {w : World} {K : PySem.W.Frag} {mg : Str → Option Value} {base : Heap}
def numS (n : Int) : Str := Str.ofString (toString n)
/-- figures of any number -/
def spFigI : Sp := fun vs H Q _ => ∃ n : Int, vs = [.int n] ∧ -(PT ^ 20) < n ∧ n < PT ^ 20 ∧ ∀ H', Same H H' → Q (.str (numS n)) H'
theorem fig_len {n : Int} (h0 : 0 ≤ n) (h : n < PT ^ 20) : (figOf n).length ≤ 1280 := by
  unfold figOf
  rw [TL.join_eq]
  refine Nat.le_trans (StrLaws.join_length_le Str.empty _) ?_
  have fl : (figs n).length ≤ 20 := figs_len 19 h0 h
  have h1 := sum64 (figs n).reverse fun x hx => figs_el n.toNat h0 (Nat.le_refl _) x (List.mem_reverse.mp hx)
  rw [List.length_reverse] at h1 ⊢
  have h2 : (Str.empty).length = 0 := rfl
  rw [h2]
  omega
theorem ok_figI {f : Addr} {fd : FuncData} {tp tf : Tok} (F : Fun K "figures" "figures" s_figures f fd) (G : FnOk P w K mg base CX0 1 f fd ["number"] spFig) (b : Binds K fd ["number"] []) (g : mg "figures" = some (.ref f)) (gP : mg "PART" = some (.int PT tp)) (gF : mg "PART_FIGURES" = some (.int 64 tf)) (md : mg "divmod" = none) (ms : mg "str" = none) :
    FnOk P w K mg base CX0 2 f fd ["number"] spFigI := by
  have neg : FnOk P w K mg base CX0 2 f fd ["number"] (fun vs H Q E => ∃ n : Int, vs = [.int n] ∧ n < 0 ∧ -(PT ^ 20) < n ∧ ∀ H', Same H H' → Q (.str (numS n)) H') := by
    refine F.ok scFig (fun vs H Q E h => ?_) (fun cdv A outer s H vs Q E hr h => ?_)
    · obtain ⟨n, rfl, _⟩ := h
      rfl
    · obtain ⟨n, rfl, n0, n20, q⟩ := h
      refine ⟨_, pss_cons (ps_if (pt_cmpR op_lt (pv 0) pe_int (nomark _)) (pss_one (ps_ret (pe_op op_add_str pe_str (pe_call G hr (by rfl) g F.kp b .nil pass0 (pa_cons (pe_un un_neg (pv 0)) pa_nil))))) pss_nil)
        (pss_cons (ps_set (i := 1) scFig.nd rfl (by first | exact .inl rfl | exact .inr rfl) (pe_lst pa_nil))
        (pss_cons (ps_while PassesOwn.never (pt_cmpR op_ge (pv 0) (pe_glob (v := .int PT) rfl gP ⟨_, rfl⟩) (nomark _))
          (pss_cons (ps_asg (pe_callB call_divmodW (by rfl) md (by decide +kernel) (pa_cons (pv 0) (pa_cons (pe_glob (v := .int PT) rfl gP ⟨_, rfl⟩) pa_nil))) (pg_tup rfl (pgs_cons (pg_name (i := 0) scFig.nd rfl (by first | exact .inl rfl | exact .inr rfl)) (pgs_cons (pg_name (i := 2) scFig.nd rfl (by first | exact .inl rfl | exact .inr rfl)) pgs_nil))))
          (pss_one (ps_expr (pe_bm PySem.F.plainAttrs_list PySem.F.slot_list_append PySem.F.type_list_append mt_append (pv 1) (pa_cons (pe_bm PySem.F.plainAttrs_str PySem.F.slot_str_zfill PySem.F.type_str_zfill mt_zfill (pe_callTy (T := "str") call_str_int (by rfl) ms (by decide +kernel) (pa_cons (pv 2) pa_nil)) (pa_cons (pe_glob (v := .int 64) rfl gF ⟨_, rfl⟩) pa_nil)) pa_nil))))))
        (pss_cons (ps_expr (pe_bm PySem.F.plainAttrs_list PySem.F.slot_list_append PySem.F.type_list_append mt_append (pv 1) (pa_cons (pe_callTy (T := "str") call_str_int (by rfl) ms (by decide +kernel) (pa_cons (pv 0) pa_nil)) pa_nil)))
        (pss_one (ps_ret (pe_join pe_str (pe_revL (pv 1)))))))), ?_⟩
      refine ⟨.int n, rfl, n, 0, rfl, rfl, _, rfl, ?_⟩
      rw [decide_eq_true n0]
      refine iteT ⟨.int n, rfl, n, rfl, -n, rfl, by omega, by omega, fun H1 s1 => ?_⟩
      refine ⟨_, _, rfl, rfl, ?_, ?_⟩
      · have h1 : (Str.ofString "-").length = 1 := rfl
        have h2 : (figOf (-n)).length ≤ 1280 := fig_len (by omega) (by omega)
        show (Str.ofString "-").length + (figOf (-n)).length ≤ sizeLine
        rw [sizeLine_eq]
        omega
      · rw [fig_str (show 0 ≤ -n by omega)]
        have := q H1 s1
        unfold numS at this
        rw [neg_str n0] at this
        exact this
  have pos : FnOk P w K mg base CX0 2 f fd ["number"] (fun vs H Q E => ∃ n : Int, vs = [.int n] ∧ 0 ≤ n ∧ n < PT ^ 20 ∧ ∀ H', Same H H' → Q (.str (numS n)) H') :=
    ⟨fun vs H Q E ⟨n, e, _⟩ => by rw [e]; rfl, fun A outer s H args us vs Q E hr e0 hb r ⟨n, e, h0, h1, q⟩ => G.run A outer s H args us vs Q E (hr.mono (by decide)) e0 hb r ⟨n, e, h0, h1, fun H' s' => by rw [fig_str h0]; exact q H' s'⟩⟩
  refine fnokW (fnokOr pos neg) fun vs H Q E ⟨n, e, h1, h2, q⟩ => ?_
  by_cases c : n < 0
  · exact .inr ⟨n, e, c, h1, q⟩
  · exact .inl ⟨n, e, by omega, h2, q⟩
end
end Nl
end
section
set_option maxHeartbeats 4000000
namespace Rl
open PySem PySem.Spec PyProof.Rows L2
/-! ### promises where nothing is being shown: what repr of lists wants -/
/-- a def's promise, called where no repr is under way -/
structure FnG (P : Program) (w : World) (K : PySem.W.Frag) (mg : Str → Option Value) (base : Heap) (CX : CXT) (k : Nat) (f : Addr) (fd : FuncData) (ps : List Str) (sp : Sp) : Prop where
  len : ∀ vs H Q E, sp vs H Q E → vs.length = ps.length
  run : ∀ (A : Around) (outer : List Env) (s : Shared) (H : Hp) (args : Args) (us : List Value) (vs : List V) (Q : VK) (E : XK), A.guards = some [] → Room k A → Env0 P w K mg base A outer s H → BindsTo s fd args (ps.zip us) → Vals vs us → sp vs H Q E →
    codeAny (model P w) A (.call (.ref f) args) (CR CX outer P w H s Q E) s
section
variable {P : Program} {w : World} {K : PySem.W.Frag} {mg : Str → Option Value} {base : Heap} {CX : CXT} {k : Nat} {f : Addr} {fd : FuncData} {ps N : List Str} {sp : Sp}
theorem FnG.of (F : FnOk P w K mg base CX k f fd ps sp) : FnG P w K mg base CX k f fd ps sp := ⟨F.len, fun A outer s H args us vs Q E _ => F.run A outer s H args us vs Q E⟩
/-- a def by its body -/
theorem okG {x qual : Str} {st : Stmt} (F : Fun K x qual st f fd) (S : FnScope N ps (defScope st)) (len : ∀ vs H Q E, sp vs H Q E → vs.length = ps.length)
    (hbody : ∀ (cdv : Value) (A : Around) (outer : List Env) (s : Shared) (H : Hp) (vs : List V) (Q : VK) (E : XK), A.guards = some [] → Room k (A.deeper (envOfC qual (defScope st) s.heap.objs.size f cdv)) → sp vs H Q E →
      ∃ t, PSs (cxOf CX0 P w K mg base N qual (defScope st) f cdv A outer s H E).nox (defBody st) t ∧ t { nx := fun _ H' => Q .non H', rt := Q } (start N vs) H) : FnG P w K mg base CX0 (k + 1) f fd ps sp := by
  obtain ⟨oc, od, kV, doc, pm, an, cdv, ct, osl, rfl, lk, hcd⟩ := F.ex
  refine ⟨len, fun A outer s H args us vs Q E hg hr e0 hb r hsp => ?_⟩
  have KI : K.In s.heap := e0.mod.kin.keeps fun b o z => (e0.bs b o z).1
  have par : ∀ y ∈ ps.zip us, (defScope st).names.lookup y.1 = some .local ∨ ((defScope st).names.lookup y.1 = some .cell ∧ ((cellsFrom (s.heap.objs.size + 1) (defScope st).names []).lookup y.1).isSome = true) := fun ⟨n, v⟩ hy =>
    (S.par n (List.of_mem_zip hy).1).imp id fun q => ⟨q, PySem.W.cellsFrom_some _ _ _ (.inl q)⟩
  refine codeAny_call_function hr.depth (KI _ _ lk) rfl S.co S.gen rfl (PySem.W.codeRec_of KI hcd) (hb _ _ _ _ (wpAny_newFunctionEnv_cells S.kind par fun env he s1 z => ?_))
  subst he
  refine ⟨(e0.mod.nolimit.keeps fun b o z => (e0.bs b o z).1).keeps z.toInCall.keep, codeAny_func ?_⟩
  obtain ⟨t, ht, hq⟩ := hbody cdv A outer s H vs Q E hg (hr.deeper _) hsp
  have I : Inv (cxOf CX0 P w K mg base N qual (defScope st) f cdv A outer s H E) [] (start N vs) H s1 := inv_start S hr.hd e0 (len _ _ _ _ hsp) r z
  refine wpAny_mono (ht.nox.run [] s1 (start N vs) H _ I hq) (fun fl s' hs => ?_) fun e s' hs => hs
  cases fl with
  | ret u =>
    obtain ⟨v, σ', H', J, rv, q⟩ := hs
    exact ⟨v, H', J.os, J.bare, J.base, J.hok, rv, q⟩
  | next =>
    obtain ⟨σ', H', J, q⟩ := hs
    exact ⟨.non, H', J.os, J.bare, J.base, J.hok, rfl, q⟩
  | brk =>
    obtain ⟨_, _, _, z⟩ := hs
    exact False.elim z
  | cont =>
    obtain ⟨_, _, _, z⟩ := hs
    exact False.elim z
end
section
variable {X : Cx} {CX : CXT} {k : Nat} {f : Addr} {fd : FuncData} {ps : List Str} {sp : Sp} {dvs : List V} {ds : List Value} {E : XK} {x : Str} {p pos : Pos} {e : Expr} {es : List Expr} {t : TA}
/-- f(e, ..) -/
theorem pe_callG (F : FnG X.prog X.w X.K X.mg X.base CX k f fd ps sp) (hg : X.A.guards = some []) (hr : Room k X.A) (gl : Gl X x) (hm : X.mg x = some (.ref f)) (hk : PySem.W.keepIn X.K (.ref f) = true) (hb : Binds X.K fd ps ds) (hd : Vals dvs ds) (hx : Passes CX X E)
    (ha : PA X (e :: es) t) (hdb : (x == ("__debug__" : Str)) = false := by decide) (he : starEach (e :: es) X.env = (false, eval e X.env) :: starEach es X.env := by rfl) (hpl : (backTo pos (starEach es X.env)).any (·.1) = false := by rfl) :
    PE X (.Call (.Name x p) (e :: es) [] pos) (tCall sp dvs E t) := by
  refine ⟨fun pins s σ H Q I h => wpAny_Call_Name_kw (ld_glob I gl hm (PySem.W.callWith_K (h₀ := X.base) I.ok.mod.kin hk (thn (ha.run pos pins s σ H _ I h) fun us s1 ⟨vs, H1, J, r, q⟩ => ⟨J.kIn, ?_⟩) he hpl) hdb)⟩
  have r2 : Vals (vs ++ dvs) (us ++ ds) := r.append hd
  have hl : (us ++ ds).length = ps.length := r2.length.symm.trans (F.len _ _ _ _ q)
  refine wpAny_call (codeAny_mono (F.run X.A X.stack s1 H1 ⟨us, []⟩ (us ++ ds) (vs ++ dvs) Q E hg hr J.env0 (hb s1 us J.kIn hl) r2 q) fun o s' hq => ?_)
  cases o with
  | error er => exact hx pins σ H1 s1 er s' J hq
  | ok fl =>
    cases fl with
    | ret u => exact J.after hq
    | _ => exact False.elim hq
/-- repr of lists and tuples, of texts, numbers, .. -/
def rRepr (K : PySem.W.Frag) : List V → Hp → VK → Prop := fun xs H Q => ∃ (a : Addr) (d : PyData), xs = [.ref a] ∧ Dp K H (.ref a) d ∧ d.showable = true ∧ d.hasDict = false ∧ d.depth ≤ 60 ∧ d.shown.length ≤ sizeLine ∧ Q (.str d.shown) H
theorem call_reprG (hg : X.A.guards = some []) (hu : X.A.units + 64 < cLine) : CallR X (.builtin "repr") (rRepr X.K) := by
  intro pins s σ H xs us Q I r h
  obtain ⟨a, d, rfl, hd, hs, nd, dp, hz, q⟩ := h
  cases r with
  | cons r1 rn =>
    cases rn
    cases r1
    obtain ⟨as, rd⟩ := Dp.reads I d _ _ hd rfl
    exact repr_of_reads' rd hs (fun z => by rw [nd] at z; cases z) hg (by omega) (fun _ _ z => z) (fun h' u tk kk => ⟨.str d.shown, H, I.kept kk, ⟨_, rfl⟩, q⟩) hz
end
/-- the law, called -/
theorem law_callG {P : Program} {w : World} {K : PySem.W.Frag} {mg mb : Str → Option Value} {CX : CXT} {k : Nat} {fa a : Addr} {fd : FuncData} {x : Str} {sp : Sp} {s₁ : Shared} {vs : List Value} {ns : List Int}
    (KX : K.In s₁.heap) (hns : s₁.heap.Ns mainGlobals mg) (hb : s₁.heap.Ns builtinsNs mb) (hbb : ∀ y : Str, y ≠ "__name__" → mb y = bootBuiltins y) (hlim : s₁.heap.NoLimit) (hgen : s₁.gens = #[])
    (ha : s₁.heap.get? a = some { cls := .type "list", data := .seq vs.toArray }) (hi : IntsAre vs ns) (hl : ns.length ≤ sizeLine) (hr : Room k callerA)
    (F : ∀ base : Heap, K.In base → base.Ns mainGlobals mg → FnG P w K mg base CX k fa fd [x] sp) (hbind : ∀ (s : Shared) (u : Value), BindsTo s fd ⟨[u], []⟩ [(x, u)])
    (hsp : ∀ H : Hp, Only H → SqL K H a (ns.map V.int) → sp [.ref a] H (fun v _ => v = .bl true) fun _ _ _ => False) (hCX : ∀ H e s', CX [] H s₁ (fun _ _ _ => False) e s' → False) :
    codeAny (model P w) callerA (.call (.ref fa) ⟨[.ref a], []⟩) (fun r s' => r = .ok (.ret (.bool true)) ∧ OldK s₁.heap s'.heap ∧ s'.os = s₁.os ∧ AllBare s'.gens) s₁ := by
  have rv := vals_ints hi
  have core : ∀ H : Hp, Only H → SqL K H a (ns.map V.int) → HOk P w H s₁.heap → (∀ b, H b ≠ none → b = a ∧ K.lookup a = none) →
      codeAny (model P w) callerA (.call (.ref fa) ⟨[.ref a], []⟩) (fun r s' => r = .ok (.ret (.bool true)) ∧ OldK s₁.heap s'.heap ∧ s'.os = s₁.os ∧ AllBare s'.gens) s₁ := fun H hO hS hok only => by
    have noD : ∀ {b : Addr} {o : Obj} {es : Array DictEntry} {ep : Nat}, s₁.heap.get? b = some o → o.data = .dict es ep → H b = none := fun {b o es ep} z d => by
      cases q : H b with
      | none => rfl
      | some u =>
        have eb := (only b (by rw [q]; simp)).1
        rw [eb, ha] at z
        cases z
        have d' : Data.seq vs.toArray _ = Data.dict es ep := d
        cases d'
    have nsK : ∀ {b : Addr} {m : Str → Option Value}, s₁.heap.Ns b m → (hidT s₁.heap H).Ns b m := fun {b m} ⟨o, es, ep, z, d, r⟩ => ⟨o, es, ep, hidT_get z (noD z d), d, r⟩
    have kb : K.In (hidT s₁.heap H) := fun b o z => hidT_get (KX b o z) (by
      cases q : H b with
      | none => rfl
      | some u =>
        obtain ⟨eb, nk⟩ := only b (by rw [q]; simp)
        rw [eb, nk] at z
        cases z)
    have e0 : Env0 P w K mg (hidT s₁.heap H) callerA [] s₁ H := ⟨rfl, ⟨kb, nsK hns, ⟨mb, nsK hb, hbb⟩, let ⟨mc, h1, h2⟩ := hlim; ⟨mc, nsK h1, h2⟩⟩, fun b o z => of_hidT z, Nat.le_of_eq (hidT_size _ _), trivial, fun b z => absurd (show b ∈ ([] : List Addr) from z) (by simp), hok, .of_eq hgen⟩
    refine codeAny_mono ((F _ kb (nsK hns)).run callerA [] s₁ H ⟨[.ref a], []⟩ [.ref a] [.ref a] _ _ rfl hr e0 (hbind s₁ (.ref a)) (.cons rfl .nil) (hsp H hO hS)) fun r s' h => ?_
    cases r with
    | error e => exact (hCX H e s' h).elim
    | ok fl =>
      cases fl with
      | ret u =>
        obtain ⟨v, H', os, bare, un, hok', r', q⟩ := h
        cases (show v = .bl true from q)
        cases (show u = Value.bool true from r')
        refine ⟨rfl, OldK.of_keep fun b o z => ?_, os, bare⟩
        cases q : H b with
        | none => exact un.keep b o z q (fun y => absurd (show b ∈ ([] : List Addr) from y) (by simp)) (by simp)
        | some u =>
          rcases hO b with y | ⟨ob, xs, y⟩
          · rw [q] at y; cases y
          · obtain ⟨h1, _⟩ := hok b _ y
            obtain ⟨h2, _⟩ := hok' b _ (un.frzs b ob _ y)
            rw [z] at h1
            cases h1
            exact h2
      | _ => exact False.elim h
  cases hk : K.lookup a with
  | some o =>
    have z := KX a o hk
    rw [ha] at z
    cases z
    exact core (fun _ => none) (fun _ => .inl rfl) (.inr ⟨_, vs.toArray, _, hk, rfl, rfl, rfl, by rw [List.size_toArray, hi.length]; exact hl, by simpa using rv⟩) (fun b u z => nomatch (show (none : Option HO) = some u from z)) fun b z => absurd rfl z
  | none =>
    refine core (fun b => if b = a then some (.frz { cls := .type "list", data := .seq vs.toArray } (.lst (ns.map V.int))) else none) (fun b => ?_) (.inl (.inr ⟨{ cls := .type "list", data := .seq vs.toArray }, if_pos rfl⟩)) (fun b u z => ?_) fun b z => ?_
    · by_cases h : b = a
      · exact .inr ⟨_, _, if_pos h⟩
      · exact .inl (if_neg h)
    · by_cases h : b = a
      · have z' := (if_pos h).symm.trans z
        cases z'
        subst h
        exact ⟨ha, by rw [List.length_map]; exact hl, vs, _, rv, ha⟩
      · cases (if_neg h).symm.trans z
    · by_cases h : b = a
      · exact ⟨h, hk⟩
      · exact absurd (if_neg h) z
theorem walk_ofG {l : PySem.W.OpenLaw} {n k : Nat} {q : Program} {loose : List Str} {XP : (Str → Option Value) → Heap → Prop} {YP : World → Heap → Prop} {d : DefRec} {CX : CXT} {x : Str}
    (hn : l.most = some n) (hn2 : n ≤ sizeLine) (hdf : d.params.defaults = []) (hr : Room k callerA)
    (F : ∀ (w : World) (mg : Str → Option Value) (fa : Addr) (h : Heap), YP w h → h.Ns mainGlobals mg → mg d.name = some (.ref fa) →
      ∃ (K : PySem.W.Frag) (fd : FuncData) (sp : Sp), K.In h ∧ (∀ (s : Shared) (u : Value), BindsTo s fd ⟨[u], []⟩ [(x, u)]) ∧
        (∀ (H : Hp) (a : Addr) (ns : List Int), ns.length ≤ n → Only H → SqL K H a (ns.map V.int) → sp [.ref a] H (fun v _ => v = .bl true) fun _ _ _ => False) ∧
        ∀ base : Heap, K.In base → base.Ns mainGlobals mg → FnG l.prog w K mg base CX k fa fd [x] sp)
    (hCX : ∀ (H : Hp) (s : Shared) (e : Value) (s' : Shared), CX [] H s (fun _ _ _ => False) e s' → False) : PySem.W.WalkO q loose XP YP l.row.toRowW d [] (fun f vs => PySem.call f vs) :=
  Att.attach_call hn hdf fun w s₀ s₁ mg mb fa o pm cd doc a vs ns G Y ho hd hcd hmg hobj hints hlen hg => by
    obtain ⟨K, fd, sp, KX, hb, hsp, hF⟩ := F w mg fa _ Y G.T.g hmg
    exact law_callG KX G.T.g G.T.b G.T.builtins G.T.nolimit hg hobj hints (Nat.le_trans hlen hn2) hr hF hb (fun H hO hS => hsp H a ns hlen hO hS) fun H e s' => hCX H s₁ e s'
end Rl
end
section
set_option maxHeartbeats 4000000
/-! repr, and {..!r}, of dicts of ints by names or by pairs of names -/
namespace Rl
open PySem PySem.Spec PyProof.Rows L2 Nl Nt
def dN (B : Br) : PyData := .dict (B.map fun x => (.str x.1, .int x.2))
def dP (Pp : Pi) : PyData := .dict (Pp.map fun p => (.tuple [.str p.1.1, .str p.1.2], .int p.2))
section
variable {X : Cx} {pins : List (Addr × Obj)} {σ : List (Option V)} {H : Hp} {s : Shared} {a : Addr}
theorem readsAll_strs2 {h : Heap} {l : List Value} {x y : Str} {as : List Addr} (r : ReadsAll h l [.str x, .str y] as) : as = [] := by
  cases r with
  | cons r1 r2 =>
    cases r1
    cases r2 with
    | cons r3 r4 =>
      cases r3
      cases r4
      rfl
theorem reads_strs2 {h : Heap} {q : Addr} {x y : Str} {as : List Addr} (r : Reads h (.ref q) (.tuple [.str x, .str y]) as) : as = [] := by
  cases r with
  | tuple h1 h2 h3 h4 => exact readsAll_strs2 h4
theorem keys_bkR {h : Heap} {P : Program} {w : World} : ∀ {B : Br} {es : List DictEntry} {vs : List (Key × Value)}, KV (bk B) vs → Pairs (mixKind P w) es vs → ReadsAll h (es.map (·.key)) (B.map fun x => PyData.str x.1) [] ∧ ReadsAll h (es.map (·.val)) (B.map fun x => PyData.int x.2) []
  | [], es, vs, k, p => by
    cases k
    cases p
    exact ⟨.nil, .nil⟩
  | x :: B, es, vs, k, p => by
    cases k with
    | cons k1 k2 =>
      cases p with
      | cons p1 p2 p3 =>
        obtain ⟨h1, h2⟩ := keys_bkR (h := h) k2 p3
        obtain ⟨e1, e2⟩ := k1
        have e1' := e1
        rw [← e1] at p1
        rcases keyIs_shape (show keyIs (Sum.inr x.1) _ = true from p1) with ⟨i, t, q1, q2⟩ | ⟨z, t, q1, q2⟩
        · cases q1
        · cases q1
          obtain ⟨t2, q3⟩ := e2
          rw [← p2] at q3
          constructor
          · show ReadsAll h (_ :: _) (_ :: _) _
            dsimp only
            rw [q2]
            exact ReadsAll.cons (as := []) (bs := []) (.str _ _) h1
          · show ReadsAll h (_ :: _) (_ :: _) _
            dsimp only
            rw [q3]
            exact ReadsAll.cons (as := []) (bs := []) (.int _ _) h2
theorem reads_dN {B : Br} (I : Inv X pins σ H s) (ha : H a = some (.dK (bk B))) : ∃ as, Reads s.heap (.ref a) (dN B) as ∧ sysModules ∉ as := by
  obtain ⟨_, lo, vs, kv, o, es, ep, h1, h2, h3, h4, h5, h6⟩ := I.hok a _ ha
  obtain ⟨r1, r2⟩ := keys_bkR (h := s.heap) kv h5
  have r1' : ReadsAll s.heap (es.toList.map (·.key)) ((B.map fun x => (PyData.str x.1, PyData.int x.2)).map (·.1)) [] := by rw [List.map_map]; exact r1
  have r2' : ReadsAll s.heap (es.toList.map (·.val)) ((B.map fun x => (PyData.str x.1, PyData.int x.2)).map (·.2)) [] := by rw [List.map_map]; exact r2
  refine ⟨_, .dict h1 h2.1 h3 r1' r2', fun hm => ?_⟩
  have : sysModules = a := by simpa using hm
  rw [this] at lo
  simp at lo
theorem keys_ptR (I : Inv X pins σ H s) : ∀ {Pp : Pi} {xs : List (List Key × Addr × Value)}, Paired (fun (p : List Key × V) (q : List Key × Addr × Value) => p.1 = q.1 ∧ H q.2.1 = some (.tup (p.1.map kV)) ∧ L2.RelV p.2 q.2.2) (pt Pp) xs →
    ReadsAll s.heap (xs.map fun q => Value.ref q.2.1) (Pp.map fun p => PyData.tuple [.str p.1.1, .str p.1.2]) [] ∧ ReadsAll s.heap (xs.map fun q => q.2.2) (Pp.map fun p => PyData.int p.2) []
  | [], xs, k => by
    cases k
    exact ⟨.nil, .nil⟩
  | p :: Pp, xs, k => by
    cases k with
    | @cons _ q _ _ k1 k2 =>
      obtain ⟨h1, h2⟩ := keys_ptR I k2
      obtain ⟨e1, e2, e3⟩ := k1
      have e2' : H q.2.1 = some (.tup [.str p.1.1, .str p.1.2]) := e2
      obtain ⟨as, rd⟩ := Dp.reads I (.tuple [.str p.1.1, .str p.1.2]) (.ref q.2.1) (.ref q.2.1) (Dp.tup (SqT.of e2') (.cons (.str _) (.cons (.str _) .nil))) rfl
      have ea := reads_strs2 rd
      subst ea
      obtain ⟨t2, q3⟩ := e3
      constructor
      · show ReadsAll s.heap (_ :: _) (_ :: _) _
        exact ReadsAll.cons (as := []) (bs := []) rd h1
      · show ReadsAll s.heap (_ :: _) (_ :: _) _
        dsimp only
        rw [q3]
        exact ReadsAll.cons (as := []) (bs := []) (.int _ _) h2
theorem reads_dP {Pp : Pi} (I : Inv X pins σ H s) (ha : H a = some (.dT (pt Pp))) : ∃ as, Reads s.heap (.ref a) (dP Pp) as ∧ sysModules ∉ as := by
  obtain ⟨_, lo, xs, kv, o, es, ep, h1, h2, h3, h4, h5⟩ := I.hok a _ ha
  obtain ⟨r1, r2⟩ := keys_ptR I kv
  have r1' : ReadsAll s.heap (es.toList.map (·.key)) ((Pp.map fun p => (PyData.tuple [.str p.1.1, .str p.1.2], PyData.int p.2)).map (·.1)) [] := by rw [h4, List.map_map, List.map_map]; exact r1
  have r2' : ReadsAll s.heap (es.toList.map (·.val)) ((Pp.map fun p => (PyData.tuple [.str p.1.1, .str p.1.2], PyData.int p.2)).map (·.2)) [] := by rw [h4, List.map_map, List.map_map]; exact r2
  refine ⟨_, .dict h1 h2.1 h3 r1' r2', fun hm => ?_⟩
  have : sysModules = a := by simpa using hm
  rw [this] at lo
  simp at lo
/-- a dict of ints by names or pairs, as a text -/
def DcR (H : Hp) (a : Addr) (d : PyData) : Prop := (∃ B, H a = some (.dK (bk B)) ∧ d = dN B) ∨ ∃ Pp, H a = some (.dT (pt Pp)) ∧ d = dP Pp
theorem DcR.reads {d : PyData} (I : Inv X pins σ H s) (h : DcR H a d) : ∃ as, Reads s.heap (.ref a) d as ∧ sysModules ∉ as := by
  rcases h with ⟨B, h, rfl⟩ | ⟨Pp, h, rfl⟩
  · exact reads_dN I h
  · exact reads_dP I h
/-- {x!r} of such a dict -/
def tFmtRD (te : TE) : TE := fun σ H Q => te σ H fun x H1 => ∃ a d, x = .ref a ∧ DcR H1 a d ∧ d.showable = true ∧ d.depth ≤ 60 ∧ d.shown.length ≤ sizeLine ∧ Q (.str d.shown) H1
theorem pe_fmtRD {e : Expr} {te : TE} {pos : Pos} (hg : X.A.guards = some []) (hu : X.A.units + 64 < cLine) (he : PE X e te) : PE X (.FormattedValue e 114 none pos) (tFmtRD te) := by
  refine ⟨fun pins s σ H Q I h => ?_⟩
  refine wpAny_FormattedValue_repr (thn (he.run pins s σ H _ I h) fun v s1 hv => ?_)
  obtain ⟨x, H1, I1, r1, b, d, rfl, hd, hs, dp, hz, q⟩ := hv
  cases r1
  obtain ⟨as, rd, nm⟩ := hd.reads I1
  exact pyReprObj_of_reads rd hs (fun _ => nm) hg (by omega) (fun _ _ z => z) (fun h' u tk kk => wpAny_formatField_str ⟨.str d.shown, H1, I1.kept kk, ⟨_, rfl⟩, q⟩ ⟨.str d.shown, H1, (I1.kept kk).tok _, ⟨_, rfl⟩, q⟩ hz) hz
/-- repr of such a dict -/
def rReprD : List V → Hp → VK → Prop := fun xs H Q => ∃ (a : Addr) (d : PyData), xs = [.ref a] ∧ DcR H a d ∧ d.showable = true ∧ d.depth ≤ 60 ∧ d.shown.length ≤ sizeLine ∧ Q (.str d.shown) H
theorem call_reprD (hg : X.A.guards = some []) (hu : X.A.units + 64 < cLine) : CallR X (.builtin "repr") rReprD := by
  intro pins s σ H xs us Q I r h
  obtain ⟨a, d, rfl, hd, hs, dp, hz, q⟩ := h
  cases r with
  | cons r1 rn =>
    cases rn
    cases r1
    obtain ⟨as, rd, nm⟩ := hd.reads I
    exact repr_of_reads' rd hs (fun _ => nm) hg (by omega) (fun _ _ z => z) (fun h' u tk kk => ⟨.str d.shown, H, I.kept kk, ⟨_, rfl⟩, q⟩) hz
end
end Rl
end
section
set_option maxHeartbeats 4000000
/-! repr, and {..!r}, of an own object whose class has its own __repr__ -/
namespace PySem.W
open PySem PySem.Spec PyProof.Rows
section
variable {prog : Program} {w : World} {A : Around} {E : Value → Shared → Prop} {s : Shared} {K : Frag} {x C f : Addr} {ox : Obj} {od : Option Obj}
theorem pyReprObj_K {Q : Value → Shared → Prop} (hu : A.units < cLine) (X : K.In s.heap) (I : InstAt s.heap x ox C od) (hs : findIn K (.ref C) "__repr__" = some (some (.ref f))) (hf : isFn K (.ref f) = true)
    (h : wpAny (model prog w) A (call (.ref f) [.ref x]) (StrBack Q) E s) : wpAny (model prog w) A (pyReprObj (.ref x)) Q E s := by
  unfold pyReprObj
  refine wpAny_bind (wpAny_cRoomFor hu ?_)
  refine wpAny_bind (wpAny_bind (I.type.here ((looks_findIn X hs).here ?_)))
  show wpAny _ _ (if (some (Value.ref f)).isNone = true then _ else _) _ _ _
  rw [if_neg (by simp)]
  refine wpAny_bind (m := callSpecialIfBound? (.ref x) (Str.ofString "__repr__") _) (ifBound_K X I hs hf (wpAny_mono h (fun r s' hr => ?_) fun _ _ y => y))
  cases r <;> first | exact hr.elim | skip
  refine wpAny_bind (wpAny_isInstance (typeIs_str _ _ _) isSubtype_str_str ?_)
  first
    | exact wpAny_pure hr
    | (rw [if_pos rfl]; exact wpAny_pure hr)
    | (simp only [if_true]; exact wpAny_pure hr)
end
end PySem.W
namespace Rl
open PySem PySem.Spec PyProof.Rows L2
section
variable {X : Cx} {n : Nat} {C f : Addr} {fd : FuncData} {ps : List Str} {sp : Sp} {E : XK} {CX : CXT}
/-- the answer is a text -/
def txtK (Q : VK) : VK := fun v H' => ∃ t, v = .str t ∧ Q (.str t) H'
def rReprO (C : Addr) (sp : Sp) (E : XK) : List V → Hp → VK → Prop := fun xs H Q => ∃ a dx fs, xs = [.ref a] ∧ H a = some (.ins C dx fs) ∧ sp [.ref a] H (txtK Q) E
theorem reprO_call {A : Around} {pins : List (Addr × Obj)} {σ : List (Option V)} {H : Hp} {s : Shared} {a : Addr} {Q : VK} (F : FnG X.prog X.w X.K X.mg X.base CX n f fd ps sp) (hg : A.guards = some []) (hr : Room n A) (hb : Binds X.K fd ps []) (hx : Passes CX X E)
    (hA : ∀ (e0 : Env0 X.prog X.w X.K X.mg X.base X.A X.stack s H), Env0 X.prog X.w X.K X.mg X.base A X.stack s H) (I : Inv X pins σ H s) (h : sp [.ref a] H (txtK Q) E) :
    wpAny (model X.prog X.w) A (call (.ref f) [.ref a]) (PySem.W.StrBack (EP X pins σ Q)) X.xe s := by
  have e0 : Env0 X.prog X.w X.K X.mg X.base A X.stack s H := hA I.env0
  have hl := F.len _ _ _ _ h
  have r2 : Vals [V.ref a] [Value.ref a] := .cons rfl .nil
  refine wpAny_call (codeAny_mono (F.run A X.stack s H ⟨[.ref a], []⟩ [.ref a] [.ref a] _ E hg hr e0 (by
    have := hb s [.ref a] I.kIn (by simpa using hl)
    simpa using this) r2 h) fun r s' hq => ?_)
  cases r with
  | error e => exact hx pins σ H s e s' I hq
  | ok fl =>
    cases fl with
    | ret w =>
      obtain ⟨z, H', I', rz, t, ez, q⟩ := I.after hq
      subst ez
      obtain ⟨tk, rfl⟩ := rz
      exact ⟨.str t, H', I', ⟨tk, rfl⟩, q⟩
    | next => exact False.elim hq
    | brk => exact False.elim hq
    | cont => exact False.elim hq
theorem call_reprO (F : FnG X.prog X.w X.K X.mg X.base CX n f fd ps sp) (hg : X.A.guards = some []) (hr : Room (n + 1) X.A) (hs : PySem.W.findIn X.K (.ref C) "__repr__" = some (some (.ref f))) (hf : PySem.W.isFn X.K (.ref f) = true) (hb : Binds X.K fd ps []) (hx : Passes CX X E) :
    CallR X (.builtin "repr") (rReprO C sp E) := by
  intro pins s σ H xs us Q I r h
  obtain ⟨a, dx, fs, rfl, ha, hsp⟩ := h
  cases r with
  | cons r1 rn =>
    cases rn
    cases r1
    obtain ⟨mA, J, _⟩ := ins_get I.hok ha
    obtain ⟨od, J, _⟩ := J.look
    obtain ⟨m, hF⟩ := I.fr
    exact PySem.W.repr_K (by have := hr.un; show X.A.units + 1 < cLine; omega) hF I.ok.mod.kin J hs hf (reprO_call F hg hr.in1 hb hx (fun e0 => { e0 with }) I hsp)
/-- {x!r} of an own object -/
def tFmtRO (C : Addr) (sp : Sp) (E : XK) (te : TE) : TE := fun σ H Q => te σ H fun x H1 => ∃ a dx fs, x = .ref a ∧ H1 a = some (.ins C dx fs) ∧ sp [.ref a] H1 (txtK fun v H' => ∃ t, v = .str t ∧ t.length ≤ sizeLine ∧ Q (.str t) H') E
theorem pe_fmtRO {e : Expr} {te : TE} {pos : Pos} (F : FnG X.prog X.w X.K X.mg X.base CX n f fd ps sp) (hg : X.A.guards = some []) (hr : Room n X.A) (hs : PySem.W.findIn X.K (.ref C) "__repr__" = some (some (.ref f))) (hf : PySem.W.isFn X.K (.ref f) = true) (hb : Binds X.K fd ps []) (hx : Passes CX X E)
    (he : PE X e te) : PE X (.FormattedValue e 114 none pos) (tFmtRO C sp E te) := by
  refine ⟨fun pins s σ H Q I h => ?_⟩
  refine wpAny_FormattedValue_repr (thn (he.run pins s σ H _ I h) fun v s1 hv => ?_)
  obtain ⟨x, H1, I1, r1, a, dx, fs, rfl, ha, hsp⟩ := hv
  cases r1
  obtain ⟨mA, J, _⟩ := ins_get I1.hok ha
  obtain ⟨od, J, _⟩ := J.look
  have hsp' : sp [.ref a] H1 (txtK fun v H' => ∃ t, v = .str t ∧ t.length ≤ sizeLine ∧ Q (.str t) H') E := hsp
  refine PySem.W.pyReprObj_K hr.units0 I1.kIn J hs hf (wpAny_mono (reprO_call F hg hr hb hx (fun e0 => e0) I1 hsp') (fun r s' hq => ?_) fun _ _ z => z)
  cases r <;> first | exact hq.elim | skip
  obtain ⟨x, H2, I2, r2, t, ex, hz, q⟩ := hq
  subst ex
  obtain ⟨tk, e⟩ := r2
  cases e
  exact wpAny_formatField_str ⟨.str _, H2, I2, ⟨_, rfl⟩, q⟩ ⟨.str _, H2, I2.tok _, ⟨_, rfl⟩, q⟩ hz
end
end Rl
end
section
set_option maxHeartbeats 2000000
namespace Rl
open PySem PySem.Spec PyProof.Rows L2 Nl
/-! ### small data, as repr shows them -/
structure Sml (d : PyData) (k m : Nat) : Prop where
  sh : d.showable = true
  nd : d.hasDict = false
  dp : d.depth ≤ k
  lf : d.leavesShort 2000 = true
  wt : d.weight ≤ m
structure SmlA (ds : List PyData) (k m : Nat) : Prop where
  sh : PyData.showableAll ds = true
  nd : PyData.hasDictAll ds = false
  dp : PyData.depthAll ds ≤ k
  lf : PyData.leavesShortAll 2000 ds = true
  wt : PyData.weightAll ds ≤ m
theorem Sml.str {x : Str} (h : Sm 8 x) : Sml (.str x) 0 8 := ⟨rfl, rfl, Nat.le_refl _, by
  show (x.cps.toList.all fun c => decide (c < 16 ^ 8)) = true
  exact List.all_eq_true.mpr fun c hc => decide_eq_true (Nat.lt_of_lt_of_le (h.2 c hc) (by decide)), h.1⟩
theorem Sml.int {i : Int} (h : i.natAbs.log2 < 200) : Sml (.int i) 0 200 := ⟨decide_eq_true (by omega), rfl, Nat.le_refl _, by
  have := int_text_length_le (k := 200) (by decide) h
  show decide ((Str.ofString (toString i)).length ≤ 2000) = true
  rw [PySem.ofString_length]
  exact decide_eq_true (by omega), by
  show (if i == 0 then 0 else i.natAbs.log2 + 1) ≤ 200
  split <;> omega⟩
theorem SmlA.nil : SmlA [] 0 0 := ⟨rfl, rfl, Nat.le_refl _, rfl, Nat.le_refl _⟩
theorem SmlA.cons {d : PyData} {ds : List PyData} {k m j n : Nat} (h : Sml d k m) (r : SmlA ds j n) : SmlA (d :: ds) (max k j) (m + 1 + n) :=
  ⟨by show (d.showable && PyData.showableAll ds) = true; rw [h.sh, r.sh]; rfl, by show (d.hasDict || PyData.hasDictAll ds) = false; rw [h.nd, r.nd]; rfl,
    by show max d.depth (PyData.depthAll ds) ≤ _; have := h.dp; have := r.dp; omega, by show (d.leavesShort 2000 && PyData.leavesShortAll 2000 ds) = true; rw [h.lf, r.lf]; rfl,
    by show d.weight + 1 + PyData.weightAll ds ≤ _; have := h.wt; have := r.wt; omega⟩
theorem Sml.list {ds : List PyData} {k m : Nat} (h : SmlA ds k m) : Sml (.list ds) (k + 1) m := ⟨h.sh, h.nd, Nat.succ_le_succ h.dp, h.lf, h.wt⟩
theorem Sml.tuple {ds : List PyData} {k m : Nat} (h : SmlA ds k m) : Sml (.tuple ds) (k + 1) m := ⟨h.sh, h.nd, Nat.succ_le_succ h.dp, h.lf, h.wt⟩
theorem Sml.mono {d : PyData} {k m j n : Nat} (h : Sml d k m) (a : k ≤ j) (b : m ≤ n) : Sml d j n := ⟨h.sh, h.nd, Nat.le_trans h.dp a, h.lf, Nat.le_trans h.wt b⟩
theorem SmlA.of {k m : Nat} : ∀ {ds : List PyData}, (∀ d ∈ ds, Sml d k m) → SmlA ds k ((m + 1) * ds.length)
  | [], _ => ⟨rfl, rfl, Nat.zero_le _, rfl, Nat.zero_le _⟩
  | d :: ds, h => by
    have q := SmlA.cons (h d List.mem_cons_self) (SmlA.of fun e he => h e (List.mem_cons_of_mem _ he))
    refine ⟨q.sh, q.nd, Nat.le_trans q.dp (by omega), q.lf, Nat.le_trans q.wt ?_⟩
    rw [List.length_cons, Nat.mul_add]
    omega
theorem Sml.strs {l : List Str} (h : ∀ z ∈ l, Sm 8 z) : Sml (.list (l.map PyData.str)) 1 (9 * l.length) := by
  have q := SmlA.of (k := 0) (m := 8) (ds := l.map PyData.str) fun d hd => by
    obtain ⟨z, hz, rfl⟩ := List.mem_map.mp hd
    exact Sml.str (h z hz)
  rw [List.length_map] at q
  exact Sml.list q
theorem Sml.fits {d : PyData} {k m : Nat} (h : Sml d k m) (a : k ≤ 60) (b : m ≤ 8000) : d.showable = true ∧ d.hasDict = false ∧ d.depth ≤ 60 ∧ d.shown.length ≤ sizeLine := by
  refine ⟨h.sh, h.nd, Nat.le_trans h.dp a, Nat.le_trans (PyData.shown_le 2000 (by decide) d h.lf) ?_⟩
  rw [sizeLine_eq]
  have := Nat.mul_le_mul_left 2002 (Nat.le_trans h.wt b)
  omega
end Rl
end
section
set_option maxHeartbeats 4000000
namespace Nl
open PySem PySem.Spec PyProof.Rows L2 Nt
theorem join_len (sep : Str) (l : List Str) : (Txt.join sep l).length ≤ (l.map (·.length)).sum + l.length * sep.length := by
  show (Builtin.Str.glued sep l).cps.size ≤ _
  cases l with
  | nil => exact Nat.zero_le _
  | cons x r =>
    show (r.foldl (fun acc p => acc ++ sep.cps ++ p.cps) x.cps).size ≤ _
    rw [size_gluedFold, List.map_cons, List.sum_cons, List.length_cons]
    have : x.cps.size = x.length := rfl
    have h2 : (r.length + 1) * sep.length = r.length * sep.length + sep.length := Nat.succ_mul _ _
    omega
theorem figOf_len {n : Int} (h0 : 0 ≤ n) (h : n < PT ^ 20) : (figOf n).length ≤ 1280 := by
  have fl : (figs n).length ≤ 20 := figs_len 19 h0 h
  have h1 := sum64 (figs n).reverse fun x hx => figs_el n.toNat h0 (Nat.le_refl _) x (List.mem_reverse.mp hx)
  have h2 := join_len Str.empty (figs n).reverse
  have h3 : (Str.empty).length = 0 := rfl
  rw [h3] at h2
  rw [List.length_reverse] at h1 h2
  unfold figOf
  omega
theorem rep_len {z : Str} (h : Sm 8 z) : (reprText z).length ≤ 20000 := by
  have s := Rl.Sml.str h
  have := PyData.shown_le 2000 (by decide) (.str z) s.lf
  have w := s.wt
  have e : (PyData.shown (.str z)) = reprText z := by simp [PyData.shown]
  rw [e] at this
  omega
def rowS (x : Str × Int) : Str := ((Str.empty ++ reprText x.1) ++ (": " : Str)) ++ figOf x.2
/-- the text of a dict from names to numbers -/
def shownOf (B : Br) : Str := (("{" : Str) ++ Txt.join (", " : Str) (B.map rowS)) ++ ("}" : Str)
theorem cat_len (x y : Str) : (x ++ y).length = x.length + y.length := size_cat x y
theorem rowS_len {x : Str × Int} (h : Sm 8 x.1) (h0 : 0 ≤ x.2) (h1 : x.2 < PT ^ 20) : (rowS x).length ≤ 22000 := by
  have a := rep_len h
  have b := figOf_len h0 h1
  unfold rowS
  rw [cat_len, cat_len, cat_len]
  have e1 : (Str.empty).length = 0 := rfl
  have e2 : (": " : Str).length = 2 := by decide +kernel
  omega
theorem sumS : ∀ (B : Br), (∀ x ∈ B, (rowS x).length ≤ 22000) → ((B.map rowS).map (·.length)).sum ≤ 22000 * B.length
  | [], _ => Nat.le_refl _
  | x :: B, h => by
    have h1 := sumS B fun y hy => h y (List.mem_cons_of_mem _ hy)
    have h2 := h x List.mem_cons_self
    rw [List.map_cons, List.map_cons, List.sum_cons, List.length_cons]
    omega
/-- numbers that figures writes -/
structure Fig (B : Br) : Prop where
  len : B.length ≤ 12
  el : ∀ x ∈ B, Sm 8 x.1 ∧ 0 ≤ x.2 ∧ x.2 < PT ^ 20
theorem shownOf_len {B : Br} (h : Fig B) : (shownOf B).length ≤ 300000 := by
  have s := sumS B fun x hx => rowS_len (h.el x hx).1 (h.el x hx).2.1 (h.el x hx).2.2
  have j := join_len (", " : Str) (B.map rowS)
  have l := h.len
  unfold shownOf
  rw [cat_len, cat_len]
  have e1 : ("{" : Str).length = 1 := by decide +kernel
  have e2 : ("}" : Str).length = 1 := by decide +kernel
  have e3 : (", " : Str).length = 2 := by decide +kernel
  rw [e3, List.length_map] at j
  omega
section
variable {P : Program} {w : World} {K : PySem.W.Frag} {mg : Str → Option Value} {base : Heap}
theorem scShown : FnScope ["table", "name"] ["table"] (defScope s_shown) := ⟨rfl, rfl, rfl, by decide +kernel, rfl, by decide +kernel, by decide +kernel⟩
def spShown : Sp := fun vs H Q _ => ∃ (a : Addr) (B : Br), vs = [.ref a] ∧ H a = some (.dK (bk B)) ∧ (nms B).Nodup ∧ Fig B ∧ ∀ H', Same H H' → Q (.str (shownOf B)) H'
theorem ok_shown {f fF : Addr} {fd fdF : FuncData} (F : Fun K "shown" "shown" s_shown f fd)
    (FF : Fun K "figures" "figures" s_figures fF fdF) (GF : FnOk P w K mg base CX0 1 fF fdF ["number"] spFig) (bF : Binds K fdF ["number"] []) (gF : mg "figures" = some (.ref fF)) : FnOk P w K mg base CX0 2 f fd ["table"] spShown := by
  refine F.ok scShown (fun vs H Q E h => ?_) (fun cdv A outer s H vs Q E hr h => ?_)
  · obtain ⟨a, B, rfl, _⟩ := h
    rfl
  · obtain ⟨a, B, rfl, hA, nd, fg, q⟩ := h
    have hu := hu_of hr
    refine ⟨_, pss_one (ps_ret (pe_op op_add_str (pe_op op_add_str pe_str (pe_join pe_str (pe_lock (pe_lc (own := [("name", 1)]) (g := gName 1) (tt := tYes)
        (te := fun σ H Q => tJs [tFmtR (tVar 1), tC (.str ": "), tFmt (tCall spFig [] E0 (tCons (tDGet (tVar 0) (tVar 1)) tNil))] Str.empty σ H fun out H1 => Q (.str out) H1) rfl scShown.nd (pi_keys (pv 0))
        (blkOk_by (N := ["table", "name"]) (sc := defScope s_shown) (by decide +kernel)) (fun _ _ _ _ _ => pg_name (i := 1) scShown.nd rfl (Or.inl rfl)) (fun _ _ _ _ _ => pts_nil)
        (fun _ _ _ _ _ => pe_joined (.cons (pe_fmtR (pv 1)) (.cons pe_str (.cons (pe_fmt (pe_call GF hr (by rfl) gF FF.kp bF .nil pass0 (pa_cons (pe_dget hu (pv 0) (pv 1) (fun _ _ => rfl)) pa_nil))) .nil)))))))) pe_str)), ?_⟩
    refine ⟨⟨_, rfl⟩, a, _, hA, trivial, fun od => ?_⟩
    refine ⟨.ref a, rfl, a, od, rfl, .inl ⟨_, upd_same, fun D nD => ?_⟩⟩
    have hDa : D ≠ a := fun e => by subst e; rw [upd_same] at nD; cases nD
    have nDH : H D = none := by rw [upd_ne hDa] at nD; exact nD
    have lB := fg.len
    refine lc_it (n := (bk B).length) walk_keys (g := gName 1) (tt := tYes) (te := fun σ H Q => tJs [tFmtR (tVar 1), tC (.str ": "), tFmt (tCall spFig [] E0 (tCons (tDGet (tVar 0) (tVar 1)) tNil))] Str.empty σ H fun out H1 => Q (.str out) H1) (vs := [1]) (σ := [some (.ref a), none]) (fun i H1 => H1 D = some (.lst (((B.take i).map rowS).map V.str)) ∧ Same (upd H a (.frz od (.dK (bk B)))) H1) ⟨upd_same, same_new nD⟩ (fun i H1 _ h => h.2 a _ upd_same) ?_ ?_
    · rintro i x H1 H1' hi ⟨hD, sm⟩ ⟨rfl, kk, v, hkv, rfl⟩
      obtain ⟨p, hp, rfl, rfl⟩ := bk_at hkv
      have hm := List.mem_of_getElem? hp
      obtain ⟨f1, f2, f3⟩ := fg.el p hm
      have hr := rowS_len f1 f2 f3
      have hrl := rep_len f1
      have hfl := figOf_len f2 f3
      have e2 : (": " : Str).length = 2 := by decide +kernel
      have e0 : (Str.empty).length = 0 := rfl
      refine ⟨rfl, .str p.1, rfl, .inl ⟨p.1, rfl, ?_, reprText p.1, rfl, ?_, (": " : Str), rfl, ?_, .ref a, rfl, .str p.1, rfl, a, .int p.2, rfl, .inl ⟨_, Sum.inr p.1, .inr ⟨od, sm a _ upd_same⟩, rfl, by rw [valV_bk, getB_of_mem nd hm]; rfl⟩, p.2, rfl, f2, f3, fun H2 s2 => ?_⟩⟩
      · rw [sizeLine_eq]; omega
      · rw [sizeLine_eq, cat_len]; omega
      · rw [sizeLine_eq, cat_len, cat_len]; omega
      refine .inl ⟨figOf p.2, rfl, by rw [sizeLine_eq]; omega, figOf p.2, rfl, by rw [sizeLine_eq]; exact Nat.le_trans hr (by decide), ?_⟩
      refine ⟨_, s2 D _ hD, ?_, ?_, ?_⟩
      · rw [List.length_map, List.length_map, List.length_take]
        exact small1000 (by omega)
      · rw [upd_same, List.take_add_one, hp, List.map_append, List.map_append]; rfl
      · exact fun c o ec => by
          have nb : c ≠ D := ne_of_none ec nD
          rw [upd_ne nb]; exact s2 c o (sm c o ec)
    · rintro H1 ⟨hD, sm⟩
      obtain ⟨l1, l2⟩ := same_lock hA sm
      rw [bk_len, List.take_length] at hD
      have s := sumS B fun x hx => rowS_len (fg.el x hx).1 (fg.el x hx).2.1 (fg.el x hx).2.2
      have so := shownOf_len fg
      have e3 : (", " : Str).length = 2 := by decide +kernel
      have e1 : ("{" : Str).length = 1 := by decide +kernel
      have e2 : ("}" : Str).length = 1 := by decide +kernel
      have so2 : (((("{" : Str) ++ Txt.join (", " : Str) (B.map rowS)) ++ ("}" : Str))).length ≤ 300000 := so
      rw [cat_len, cat_len] at so2
      refine ⟨l1, (", " : Str), D, B.map rowS, rfl, rfl, .inl (SqL.of (by rw [upd_ne hDa]; exact hD)), ?_, ?_⟩
      · rw [e3, List.length_map]; omega
      refine ⟨("{" : Str), _, rfl, rfl, by rw [sizeLine_eq]; omega, ("{" : Str) ++ Txt.join (", " : Str) (B.map rowS), ("}" : Str), rfl, rfl, by rw [sizeLine_eq, cat_len]; omega, ?_⟩
      exact q _ l2
end
end Nl
end
section
set_option maxHeartbeats 4000000
namespace Nl
open PySem PySem.Spec PyProof.Rows L2 Nt
theorem int60 : ∀ n : Fin 61, (PyData.int ((n : Nat) : Int)).showable = true ∧ (PyData.int ((n : Nat) : Int)).leavesShort 20 = true ∧ (PyData.int ((n : Nat) : Int)).weight ≤ 6 := by decide +kernel
theorem int60' {i : Int} (h0 : 1 ≤ i) (h1 : i ≤ 60) : (PyData.int i).showable = true ∧ (PyData.int i).leavesShort 20 = true ∧ (PyData.int i).weight ≤ 6 := by
  obtain ⟨n, rfl⟩ := Int.eq_ofNat_of_zero_le (show 0 ≤ i by omega)
  exact int60 ⟨n, by omega⟩
theorem strLf {z : Str} (h : Sm 8 z) : (PyData.str z).leavesShort 20 = true := by
  show (z.cps.toList.all fun c => decide (c < 16 ^ 8)) = true
  exact List.all_eq_true.mpr fun c hc => decide_eq_true (Nat.lt_of_lt_of_le (h.2 c hc) (by decide))
theorem kvN : ∀ B : Br, (∀ x ∈ B, Sm 8 x.1 ∧ 1 ≤ x.2 ∧ x.2 ≤ 60) →
    PyData.showableKv (B.map fun x => (PyData.str x.1, PyData.int x.2)) = true ∧ PyData.depthKv (B.map fun x => (PyData.str x.1, PyData.int x.2)) = 0 ∧ PyData.leavesShortKv 20 (B.map fun x => (PyData.str x.1, PyData.int x.2)) = true ∧ PyData.weightKv (B.map fun x => (PyData.str x.1, PyData.int x.2)) ≤ 30 * B.length
  | [], _ => ⟨rfl, rfl, rfl, Nat.le_refl _⟩
  | x :: B, h => by
    obtain ⟨a, b, c, d⟩ := kvN B fun y hy => h y (List.mem_cons_of_mem _ hy)
    obtain ⟨h1, h2, h3⟩ := h x List.mem_cons_self
    obtain ⟨i1, i2, i3⟩ := int60' h2 h3
    refine ⟨?_, ?_, ?_, ?_⟩
    · show ((PyData.str x.1).showable && (PyData.int x.2).showable && PyData.showableKv _) = true
      rw [a, i1]; rfl
    · show max (max 0 0) (PyData.depthKv _) = 0
      rw [b]; rfl
    · show ((PyData.str x.1).leavesShort 20 && (PyData.int x.2).leavesShort 20 && PyData.leavesShortKv 20 _) = true
      rw [c, i2, strLf h1]; rfl
    · show x.1.cps.size + (PyData.int x.2).weight + 2 + PyData.weightKv _ ≤ 30 * (B.length + 1)
      have : x.1.cps.size ≤ 8 := h1.1
      omega
theorem kvP : ∀ Pp : Pi, (∀ p ∈ Pp, Sm 8 p.1.1 ∧ Sm 8 p.1.2 ∧ 1 ≤ p.2 ∧ p.2 ≤ 60) →
    PyData.showableKv (Pp.map fun p => (PyData.tuple [.str p.1.1, .str p.1.2], PyData.int p.2)) = true ∧ PyData.depthKv (Pp.map fun p => (PyData.tuple [.str p.1.1, .str p.1.2], PyData.int p.2)) ≤ 1 ∧ PyData.leavesShortKv 20 (Pp.map fun p => (PyData.tuple [.str p.1.1, .str p.1.2], PyData.int p.2)) = true ∧ PyData.weightKv (Pp.map fun p => (PyData.tuple [.str p.1.1, .str p.1.2], PyData.int p.2)) ≤ 30 * Pp.length
  | [], _ => ⟨rfl, Nat.zero_le _, rfl, Nat.le_refl _⟩
  | p :: Pp, h => by
    obtain ⟨a, b, c, d⟩ := kvP Pp fun y hy => h y (List.mem_cons_of_mem _ hy)
    obtain ⟨h1, h1', h2, h3⟩ := h p List.mem_cons_self
    obtain ⟨i1, i2, i3⟩ := int60' h2 h3
    refine ⟨?_, ?_, ?_, ?_⟩
    · show ((PyData.tuple [.str p.1.1, .str p.1.2]).showable && (PyData.int p.2).showable && PyData.showableKv _) = true
      rw [a, i1]; rfl
    · show max (max (max 0 (max 0 0) + 1) 0) (PyData.depthKv _) ≤ 1
      exact Nat.max_le.mpr ⟨by decide, b⟩
    · show (((PyData.str p.1.1).leavesShort 20 && ((PyData.str p.1.2).leavesShort 20 && true)) && (PyData.int p.2).leavesShort 20 && PyData.leavesShortKv 20 _) = true
      rw [c, i2, strLf h1, strLf h1']; rfl
    · show (p.1.1.cps.size + 1 + (p.1.2.cps.size + 1 + 0)) + (PyData.int p.2).weight + 2 + PyData.weightKv _ ≤ 30 * (Pp.length + 1)
      have : p.1.1.cps.size ≤ 8 := h1.1
      have : p.1.2.cps.size ≤ 8 := h1'.1
      omega
theorem dN_ok {B : Br} {Pp : Pi} (wf : Wf Nm B Pp) : (Rl.dN B).showable = true ∧ (Rl.dN B).depth ≤ 60 ∧ (Rl.dN B).shown.length ≤ 10000 := by
  obtain ⟨a, b, c, d⟩ := kvN B fun x hx => ⟨((wf.rb x hx).1 : Nm _).sm, (wf.rb x hx).2⟩
  refine ⟨a, by show PyData.depthKv _ + 1 ≤ 60; omega, ?_⟩
  have := PyData.shown_le 20 (by decide) (Rl.dN B) c
  have w : (Rl.dN B).weight ≤ 30 * B.length := d
  have := wf.lb
  omega
theorem dP_ok {B : Br} {Pp : Pi} (wf : Wf Nm B Pp) : (Rl.dP Pp).showable = true ∧ (Rl.dP Pp).depth ≤ 60 ∧ (Rl.dP Pp).shown.length ≤ 200000 := by
  have nm : ∀ z ∈ nms B, Sm 8 z := fun z hz => by
    obtain ⟨u, hu', eu⟩ := List.mem_map.mp hz
    rw [← (show u.1 = z from eu)]; exact ((wf.rb u hu').1 : Nm _).sm
  obtain ⟨a, b, c, d⟩ := kvP Pp fun p hp => ⟨nm _ (wf.rp p hp).1, nm _ (wf.rp p hp).2.1, (wf.rp p hp).2.2.2⟩
  refine ⟨a, by show PyData.depthKv _ + 1 ≤ 60; omega, ?_⟩
  have := PyData.shown_le 20 (by decide) (Rl.dP Pp) c
  have w : (Rl.dP Pp).weight ≤ 30 * Pp.length := d
  have := wf.lp
  omega
/-- a net's text -/
def netS (B : Br) (Pp : Pi) : Str := ((((Str.empty ++ ("Net(" : Str)) ++ (Rl.dN B).shown) ++ (", " : Str)) ++ (Rl.dP Pp).shown) ++ (")" : Str)
/-- a stand's text -/
def standS (B : Br) (Pp : Pi) (Qp Qc : Br) : Str := ((((((Str.empty ++ ("Stand(" : Str)) ++ netS B Pp) ++ (", " : Str)) ++ shownOf Qp) ++ (", " : Str)) ++ shownOf Qc) ++ (")" : Str)
theorem netS_len {B : Br} {Pp : Pi} (wf : Wf Nm B Pp) : (netS B Pp).length ≤ 220000 := by
  obtain ⟨_, _, a⟩ := dN_ok wf
  obtain ⟨_, _, b⟩ := dP_ok wf
  unfold netS
  rw [cat_len, cat_len, cat_len, cat_len, cat_len]
  have e0 : (Str.empty).length = 0 := rfl
  have e1 : ("Net(" : Str).length = 4 := by decide +kernel
  have e2 : (", " : Str).length = 2 := by decide +kernel
  have e3 : (")" : Str).length = 1 := by decide +kernel
  omega
section
variable {P : Program} {w : World} {K : PySem.W.Frag} {mg : Str → Option Value} {base : Heap}
theorem scNRepr : FnScope ["self"] ["self"] (defScope mNet_repr) := ⟨rfl, rfl, rfl, by decide +kernel, rfl, by decide +kernel, by decide +kernel⟩
def spNRepr (C : Addr) : Sp := fun vs H Q _ => ∃ (n : Addr) (B : Br) (Pp : Pi), vs = [.ref n] ∧ NetAt C H n B Pp ∧ Good B Pp ∧ ∀ H', Same H H' → Q (.str (netS B Pp)) H'
theorem ok_nRepr {f C : Addr} {fd : FuncData} {k : Nat} (F : Fun K "__repr__" "Net.__repr__" mNet_repr f fd) (T : TxN K mg C) : Rl.FnG P w K mg base CX0 (k + 1) f fd ["self"] (spNRepr C) := by
  refine Rl.okG F scNRepr (fun vs H Q E h => ?_) (fun cdv A outer s H vs Q E hg hr h => ?_)
  · obtain ⟨n, B, Pp, rfl, _⟩ := h
    rfl
  · obtain ⟨n, B, Pp, rfl, N, good, q⟩ := h
    obtain ⟨dx, d1, d2, hn, h1, h2, _, _⟩ := N.at_
    have wf := good.wf
    obtain ⟨a1, a2, a3⟩ := dN_ok wf
    obtain ⟨b1, b2, b3⟩ := dP_ok wf
    have nl := netS_len wf
    have e0 : (Str.empty).length = 0 := rfl
    have e1 : ("Net(" : Str).length = 4 := by decide +kernel
    have e2 : (", " : Str).length = 2 := by decide +kernel
    refine ⟨_, pss_one (ps_ret (pe_joined (.cons pe_str (.cons (Rl.pe_fmtRD hg hr.units (pe_fld (pv 0) rfl)) (.cons pe_str (.cons (Rl.pe_fmtRD hg hr.units (pe_fld (pv 0) rfl)) (.cons pe_str .nil))))))), ?_⟩
    refine ⟨("Net(" : Str), rfl, by rw [sizeLine_eq, cat_len]; omega, .ref n, rfl, n, C, dx, _, _, rfl, hn, T.cl, T.nB, nf_b d1 d2, d1, Rl.dN B, rfl, .inl ⟨B, h1, rfl⟩, a1, a2, by rw [sizeLine_eq]; omega, _, rfl, by rw [sizeLine_eq, cat_len, cat_len]; omega, ?_⟩
    refine ⟨(", " : Str), rfl, by rw [sizeLine_eq, cat_len, cat_len, cat_len]; omega, .ref n, rfl, n, C, dx, _, _, rfl, hn, T.cl, T.nW, nf_w d1 d2, d2.w, Rl.dP Pp, rfl, .inr ⟨Pp, h2, rfl⟩, b1, b2, by rw [sizeLine_eq]; omega, _, rfl, by rw [sizeLine_eq, cat_len, cat_len, cat_len, cat_len]; omega, ?_⟩
    exact ⟨(")" : Str), rfl, by rw [sizeLine_eq]; exact Nat.le_trans nl (by decide), q H (Same.refl _)⟩
end
end Nl
end
section
set_option maxHeartbeats 4000000
namespace Nl
open PySem PySem.Spec PyProof.Rows L2 Nt
section
variable {P : Program} {w : World} {K : PySem.W.Frag} {mg : Str → Option Value} {base : Heap}
theorem scSRepr : FnScope ["self"] ["self"] (defScope mStand_repr) := ⟨rfl, rfl, rfl, by decide +kernel, rfl, by decide +kernel, by decide +kernel⟩
def spSRepr (CS C : Addr) : Sp := fun vs H Q _ => ∃ (s : Addr) (B : Br) (Pp : Pi) (Qp Qc : Br), vs = [.ref s] ∧ StandAt CS C H s B Pp Qp Qc ∧ Good B Pp ∧ (nms Qp).Nodup ∧ Fig Qp ∧ (nms Qc).Nodup ∧ Fig Qc ∧ ∀ H', Same H H' → Q (.str (standS B Pp Qp Qc)) H'
theorem ok_sRepr {f fN fS CS C : Addr} {fd fdN fdS : FuncData} (F : Fun K "__repr__" "Stand.__repr__" mStand_repr f fd) (TS : TxS K mg CS)
    (GN : Rl.FnG P w K mg base CX0 1 fN fdN ["self"] (spNRepr C)) (bN : Binds K fdN ["self"] []) (iN : PySem.W.findIn K (.ref C) "__repr__" = some (some (.ref fN))) (jN : PySem.W.isFn K (.ref fN) = true)
    (FS : Fun K "shown" "shown" s_shown fS fdS) (GS : FnOk P w K mg base CX0 2 fS fdS ["table"] spShown) (bS : Binds K fdS ["table"] []) (gS : mg "shown" = some (.ref fS)) : Rl.FnG P w K mg base CX0 3 f fd ["self"] (spSRepr CS C) := by
  refine Rl.okG F scSRepr (fun vs H Q E h => ?_) (fun cdv A outer s H vs Q E hg hr h => ?_)
  · obtain ⟨a, B, Pp, Qp, Qc, rfl, _⟩ := h
    rfl
  · obtain ⟨a, B, Pp, Qp, Qc, rfl, S, good, ndp, fp, ndc, fc, q⟩ := h
    have hr1 := hr.mono (show 1 ≤ 2 by decide)
    obtain ⟨dx, n, d1, d2, hs, N, h1, h2⟩ := S.at_
    obtain ⟨dn, b1, b2, hn, _⟩ := N.at_
    have wf := good.wf
    have nl := netS_len wf
    have l1 := shownOf_len fp
    have l2 := shownOf_len fc
    have e0 : (Str.empty).length = 0 := rfl
    have e1 : ("Stand(" : Str).length = 6 := by decide +kernel
    have e2 : (", " : Str).length = 2 := by decide +kernel
    have e3 : (")" : Str).length = 1 := by decide +kernel
    refine ⟨_, pss_one (ps_ret (pe_joined (.cons pe_str (.cons (Rl.pe_fmtRO GN hg hr1 iN jN bN pass0 (pe_fld (pv 0) rfl)) (.cons pe_str
      (.cons (pe_fmt (pe_call GS hr (by rfl) gS FS.kp bS .nil pass0 (pa_cons (pe_fld (pv 0) rfl) pa_nil))) (.cons pe_str (.cons (pe_fmt (pe_call GS hr (by rfl) gS FS.kp bS .nil pass0 (pa_cons (pe_fld (pv 0) rfl) pa_nil))) (.cons pe_str .nil))))))))), ?_⟩
    refine ⟨("Stand(" : Str), rfl, by rw [sizeLine_eq, cat_len]; omega, .ref a, rfl, a, CS, dx, _, _, rfl, hs, TS.cl, TS.nN, sf_n n d1 d2, n, dn, _, rfl, hn, n, B, Pp, rfl, N, good, fun H2 s2 => ?_⟩
    refine ⟨_, rfl, _, rfl, by rw [sizeLine_eq]; omega, _, rfl, by rw [sizeLine_eq, cat_len, cat_len]; omega, ?_⟩
    refine ⟨(", " : Str), rfl, by rw [sizeLine_eq, cat_len, cat_len, cat_len]; omega, .ref a, rfl, a, CS, dx, _, _, rfl, s2 a _ hs, TS.cl, TS.nP, sf_p n d1 d2, d1, Qp, rfl, s2 d1 _ h1, ndp, fp, fun H3 s3 => ?_⟩
    have s23 := s2.trans s3
    refine .inl ⟨_, rfl, by rw [sizeLine_eq]; omega, _, rfl, by rw [sizeLine_eq, cat_len, cat_len, cat_len, cat_len]; omega, ?_⟩
    refine ⟨(", " : Str), rfl, by rw [sizeLine_eq, cat_len, cat_len, cat_len, cat_len, cat_len]; omega, .ref a, rfl, a, CS, dx, _, _, rfl, s23 a _ hs, TS.cl, TS.nC, sf_c n d1 d2, d2, Qc, rfl, s23 d2 _ h2, ndc, fc, fun H4 s4 => ?_⟩
    refine .inl ⟨_, rfl, by rw [sizeLine_eq]; omega, _, rfl, by rw [sizeLine_eq, cat_len, cat_len, cat_len, cat_len, cat_len, cat_len]; omega, ?_⟩
    exact ⟨(")" : Str), rfl, by rw [sizeLine_eq, cat_len, cat_len, cat_len, cat_len, cat_len, cat_len, cat_len]; omega, q H4 (s23.trans s4)⟩
end
end Nl
end
section
set_option maxHeartbeats 2000000
namespace Rl
open PySem PySem.Spec PyProof.Rows L2
/-! ### == of two dicts of ints, as it comes -/
theorem hits_ints {A : Around} {s : Shared} {kvs : List (Key × V)} {vb : List (Key × Value)} (rb : KV kvs vb) {ks : List (Key × V)} {va : List (Key × Value)} (ra : KV ks va) :
    (∀ p ∈ ks, ∃ i j : Int, p.2 = .int i ∧ valV kvs p.1 = some (.int j)) → PySem.W.KeqHits A s vb va (ks.all fun p => decide (valV kvs p.1 = some p.2)) := by
  unfold KV at ra
  induction ra with
  | nil => intro _; exact .nil
  | @cons p q ps qs h t ih =>
    intro hp
    obtain ⟨h1, h2⟩ := h
    obtain ⟨i, j, ei, ej⟩ := hp p List.mem_cons_self
    have rr : RelO (some (V.int j)) (valueAt vb p.1) := by rw [← ej]; exact rb.val p.1
    obtain ⟨y, hy, ry⟩ := rr.some_of
    obtain ⟨k, v⟩ := q
    have h1' : p.1 = k := h1
    rw [h1'] at hy
    rw [ei] at h2
    obtain ⟨t1, e1⟩ := h2
    obtain ⟨t2, e2⟩ := ry
    subst e2
    have e1' : v = Value.int i t1 := e1
    subst e1'
    have eb : decide (valV kvs p.1 = some p.2) = (i == j) := by
      rw [ej, ei]
      by_cases c : i = j
      · subst c; simp
      · rw [decide_eq_false (fun z => c (by injection z with z; injection z with z; exact z.symm))]
        simp [c]
    rw [List.all_cons, eb]
    exact .hit hy (SeqAt.EqAt.int_int i t1 j t2) (ih fun p' hm => hp p' (List.mem_cons_of_mem _ hm))
section
variable {X : Cx}
def rEqI : R2 := fun x y H Q => ∃ a b ks ls, x = .ref a ∧ y = .ref b ∧ H a = some (.dK ks) ∧ H b = some (.dK ls) ∧ ks.length = ls.length ∧ (∀ p ∈ ks, ∃ i j : Int, p.2 = .int i ∧ valV ls p.1 = some (.int j)) ∧ Q (.bl (ks.all fun p => decide (valV ls p.1 = some p.2))) H
theorem op_eqI (hu : X.A.units < cLine) : OpR X (compareOp .Eq) rEqI := by
  intro pins s σ H x y v u Q I rx ry h
  obtain ⟨a, b, ks, ls, rfl, rfl, ea, eb, hlen, hp, q⟩ := h
  obtain rfl : v = Value.ref a := rx
  obtain rfl : u = Value.ref b := ry
  obtain ⟨_, ya, va, ra, da⟩ := (show ObjOk X.prog X.w H s.heap a (.dK ks) from I.hok a _ ea)
  obtain ⟨_, yb, vb, rb, db⟩ := (show ObjOk X.prog X.w H s.heap b (.dK ls) from I.hok b _ eb)
  have hl : va.length = vb.length := by rw [← ra.length, ← rb.length]; exact hlen
  exact PySem.W.keq_eq (knd := mixKind X.prog X.w) ya yb da db hu (fun _ => hits_ints rb ra hp) (fin_bl I q (by simp [hl]))
/-! ### xs[::2] -/
theorem range_lt (k m : Nat) : ((List.range m).map fun (i : Nat) => (0 + (k : Int) * (i : Int)).toNat).Pairwise (fun a b => a < b) ∨ k = 0 := by
  by_cases h : k = 0
  · exact .inr h
  · left
    rw [List.pairwise_map]
    refine List.pairwise_lt_range.imp fun {a b} hab => ?_
    have : (k : Int) * (a : Int) < (k : Int) * (b : Int) := Int.mul_lt_mul_of_pos_left (by omega) (by omega)
    have h0 : 0 ≤ (k : Int) * (a : Int) := Int.mul_nonneg (by omega) (by omega)
    omega
/-- places of a list that rise: a part of it -/
theorem pick_sub {α : Type} : ∀ (xs : List α) (R : List Nat) (o : Nat), R.Pairwise (fun a b => a < b) → (∀ r ∈ R, o ≤ r) → (R.filterMap fun r => xs[r - o]?).Sublist xs
  | [], R, o, _, _ => by
    have : (R.filterMap fun r => ([] : List α)[r - o]?) = [] := by
      induction R with
      | nil => rfl
      | cons r R ih => simp
    rw [this]; exact List.Sublist.slnil
  | x :: xs, [], o, _, _ => by simp
  | x :: xs, r :: R, o, hp, hr => by
    rw [List.pairwise_cons] at hp
    have key : ∀ R' : List Nat, (∀ r ∈ R', o + 1 ≤ r) → (R'.filterMap fun r => (x :: xs)[r - o]?) = R'.filterMap fun r => xs[r - (o + 1)]? := fun R' h => by
      induction R' with
      | nil => rfl
      | cons q R' ih =>
        have e1 := ih fun r hr' => h r (List.mem_cons_of_mem _ hr')
        have h1 := h q List.mem_cons_self
        have e2 : (x :: xs)[q - o]? = xs[q - (o + 1)]? := by rw [show q - o = (q - (o + 1)) + 1 by omega, List.getElem?_cons_succ]
        simp only [List.filterMap_cons]
        rw [e1, e2]
    by_cases e : r = o
    · subst e
      rw [List.filterMap_cons_some (b := x) (by simp)]
      have hR : ∀ q ∈ R, r + 1 ≤ q := fun q hq => hp.1 q hq
      rw [key R hR]
      exact (pick_sub xs R (r + 1) hp.2 hR).cons_cons x
    · have hR : ∀ q ∈ r :: R, o + 1 ≤ q := fun q hq => by
        rcases List.mem_cons.mp hq with h | h
        · subst h; have := hr q List.mem_cons_self; omega
        · have := hp.1 q h; have := hr r List.mem_cons_self; omega
      rw [key (r :: R) hR]
      exact (pick_sub xs (r :: R) (o + 1) (by rw [List.pairwise_cons]; exact hp) hR).cons x
def tStepL (K : PySem.W.Frag) (te : TE) : TE := fun σ H Q => te σ H fun x H1 => ∃ a xs, x = .ref a ∧ SqL K H1 a xs ∧ ∀ p ys, H1 p = none → ys.Sublist xs → Q (.ref p) (upd H1 p (.lst ys))
theorem vals_atR : ∀ {xs : List V} {its : List Value}, Vals xs its → ∀ {i : Nat} {v : V}, xs[i]? = some v → ∃ u, its[i]? = some u ∧ RelV v u
  | _, _, .nil, i, v, h => by simp at h
  | _, _, .cons r t, 0, v, h => by
    have e := Option.some.inj (show some _ = some v from h)
    subst e
    exact ⟨_, rfl, r⟩
  | _, _, .cons r t, i + 1, v, h => vals_atR t (show _ = some v from h)
theorem vals_pick {xs : List V} {its : List Value} (r : Vals xs its) (R : List Nat) : Vals (R.filterMap fun i => xs[i]?) (R.filterMap fun i => its[i]?) := by
  induction R with
  | nil => exact .nil
  | cons i R ih =>
    cases e : xs[i]? with
    | none =>
      have e2 : its[i]? = none := by
        rw [List.getElem?_eq_none_iff] at e ⊢
        rw [← r.length]; exact e
      rw [List.filterMap_cons_none e, List.filterMap_cons_none e2]
      exact ih
    | some v =>
      obtain ⟨u, e2, rv⟩ := vals_atR r e
      rw [List.filterMap_cons_some e, List.filterMap_cons_some e2]
      exact .cons rv ih
theorem pe_step2 {e : Expr} {te : TE} {k : Nat} {p1 p3 pos : Pos} (he : PE X e te) : PE X (.Subscript e (.Slice none none (some (.Constant (.int 2) k p1)) p3) pos) (tStepL X.K te) := by
  refine ⟨fun pins s σ H Q I h => ?_⟩
  refine Subscript_ (thn (he.run pins s σ H _ I h) fun v s1 ⟨x, H1, I1, r1, q1⟩ => ?_)
  obtain ⟨a, xs, ex, hx, q⟩ := q1
  subst ex
  cases r1
  have hst : PO X (some (.Constant (.int 2) k p1)) (tPart (tC (.int 2))) := po_some pe_int
  refine wpAny_Slice (thn (po_none.run pins s1 σ H1 (fun o H2 => o = none ∧ H2 = H1) I1 ⟨rfl, rfl⟩) fun vl s2 ⟨l, H2, I2, pl, el, e2⟩ => ?_)
  subst el e2
  refine thn (po_none.run pins s2 σ H2 (fun o H3 => o = none ∧ H3 = H2) I2 ⟨rfl, rfl⟩) fun vu s3 ⟨u, H3, I3, pu, eu, e3⟩ => ?_
  subst eu e3
  refine thn (hst.run pins s3 σ H3 (fun o H4 => o = some 2 ∧ H4 = H3) I3 ⟨2, rfl, rfl, rfl⟩) fun vs s4 ⟨o, H4, I4, ps, eo, e4⟩ => ?_
  subst eo e4
  have I5 : Inv X pins σ H4 { s4 with heap := s4.heap.push { cls := .type "slice", data := .fields #[vl, vu, vs] } } := I4.kept (t' := s4.toks) fun b ob q => Heap.get?_push_of_some _ q
  obtain ⟨its, r, ht, hz⟩ := I5.list hx
  have hlen := r.length
  show wpAny (model X.prog X.w) X.A (subscriptTail e (.Slice none none (some (.Constant (.int 2) k p1)) p3) (.ref a) (.ref s4.heap.objs.size)) (EP X pins σ Q) X.xe { s4 with heap := s4.heap.push { cls := .type "slice", data := .fields #[vl, vu, vs] } }
  refine tail_any (ops := [.ref a, .ref s4.heap.objs.size]) ht.isList.typeIs (PySem.slot_list_getitem.lookup) ?_ (by with_unfolding_all rfl)
  refine wpAny_getItem_list_slice ht.isList (Heap.IsSliceOf.new _ vl vu vs) pl pu ps (by decide) ?_ (by rw [List.size_toArray]; omega)
  obtain ⟨R, hR⟩ : ∃ R, R = sliceRange (sliceBounds none none (some 2) its.toArray.size).1 (sliceBounds none none (some 2) its.toArray.size).2.1 (sliceBounds none none (some 2) its.toArray.size).2.2 := ⟨_, rfl⟩
  have eP : slicePick its.toArray none none (some 2) = (R.filterMap fun i => its[i]?).toArray := by
    unfold slicePick
    rw [← hR]
    congr 2
    funext i
    simp
  have pR : R.Pairwise (fun a b => a < b) := by
    rw [hR]
    unfold sliceRange
    rcases range_lt 2 (if (2 : Int) > 0 then (if (0 : Int) < (its.toArray.size : Int) then ((its.toArray.size : Int) - 0 + 2 - 1) / 2 else 0) else (if (0 : Int) > (its.toArray.size : Int) then (0 - (its.toArray.size : Int) - 2 - 1) / (-2) else 0)).toNat with h | h
    · exact h
    · cases h
  have sb : (R.filterMap fun i => xs[i]?).Sublist xs := by
    have := pick_sub xs R 0 pR (fun _ _ => Nat.zero_le _)
    simpa using this
  rw [eP]
  refine ⟨.ref _, _, I5.laid (t' := s4.toks) (o := .lst (R.filterMap fun i => xs[i]?)) (fun b ob q => Heap.get?_push_of_some _ q) (Nat.le_refl _) ?_, rfl, q _ _ (I5.hok.fresh (Nat.le_refl _)) sb⟩
  exact ⟨Nat.le_trans sb.length_le hz, _, 0, vals_pick r R, Heap.get?_push_size _ rfl⟩
end
end Rl
end
section
set_option maxHeartbeats 2000000
/-! == of dicts of ints, by texts or by pairs, as it comes: whatever their keys -/
namespace Rl
open PySem PySem.W PySem.Calls PyProof.Rows PyProof.V PySem.Spec
section
variable {K : Type} [DecidableEq K] {prog : Program} {w : World} {knd : HeapKind prog w K} {A : Around} {E : Value → Shared → Prop} {s : Shared}
theorem pairsHB {nm : String} {c d : Addr} {xs ys : List (K × Addr × Value)} {Q : Bool → Shared → Prop} (val : K × Addr × Value → Bool) (hc : (c == sysModules) = false) (hd : (d == sysModules) = false) (dc : s.heap.DictOfH knd c xs) (dd : s.heap.DictOfH knd d ys) (hu : knd.room A)
    (hits : ∀ x ∈ xs, ((∀ (j : Nat) (p : Addr × Value), ys[j]? ≠ some (x.1, p)) ∧ val x = false) ∨ ∃ (j : Nat) (p : Addr × Value), ys[j]? = some (x.1, p) ∧ SeqAt.EqAt A s x.2.2 p.2 (val x)) (h : Q (decide (xs.length = ys.length) && xs.all val) s) : wpAny (model prog w) A (Builtin.Dict.samePairs nm c d) Q E s := by
  obtain ⟨o1, e1, n1, g1, _, t1, m1, i1, u1⟩ := dc
  obtain ⟨o2, e2, n2, g2, _, t2, m2, i2, u2⟩ := dd
  have z1 : e1.size = xs.length := size_of_entries m1
  have z2 : e2.size = ys.length := size_of_entries m2
  unfold Builtin.Dict.samePairs Builtin.Dict.showsAll
  rw [if_neg (by rw [hc]; exact Bool.false_ne_true), if_neg (by rw [hd]; exact Bool.false_ne_true)]
  refine wpAny_bind (wpAny_pure (wpAny_bind (wpAny_pure (wpAny_bind (wpAny_dictEntries g1 t1 ?_)))))
  dsimp only
  refine wpAny_bind (wpAny_dictEntries g2 t2 ?_)
  by_cases z12 : ¬ e1.size = e2.size
  · rw [if_pos (by simpa using z12)]
    have : decide (xs.length = ys.length) = false := decide_eq_false (by omega)
    rw [this, Bool.false_and] at h
    exact wpAny_bind (wpAny_rule (wpAny_pure h))
  have z12 : e1.size = e2.size := Decidable.not_not.mp z12
  rw [if_neg (by rw [z12]; simp)]
  have hl : decide (xs.length = ys.length) = true := decide_eq_true (by omega)
  rw [hl, Bool.true_and] at h
  refine wpAny_bind (wpAny_dictEpoch g1 t1 (wpAny_bind ?_))
  rw [Std.Legacy.Range.forIn_eq_forIn_range']
  simp only [Std.Legacy.Range.size, Nat.sub_zero, Nat.add_sub_cancel, Nat.div_one]
  refine wpAny_forIn_list _ (fun more q t => t = s ∧ q = (none, ()) ∧ ∃ i, more = List.range' i (e1.size - i) ∧ i ≤ e1.size ∧ ∀ x ∈ xs.take i, val x = true) _ ?_ ?_ _ _ ⟨rfl, rfl, 0, by simp, Nat.zero_le _, fun x hx => by simp at hx⟩
  · rintro v more q t ⟨rfl, rfl, i, hr, hi, hpre⟩
    have lt : i < e1.size := by
      rcases Nat.lt_or_ge i e1.size with z | z
      · exact z
      · rw [Nat.sub_eq_zero_of_le z] at hr; simp at hr
    obtain ⟨rfl, hm⟩ : v = i ∧ more = List.range' (i + 1) (e1.size - (i + 1)) := by
      rw [show e1.size - i = (e1.size - (i + 1)) + 1 by omega, List.range'_succ] at hr
      injection hr with a1 a2
      exact ⟨a1, a2⟩
    have lx : v < xs.length := by omega
    have hx : xs[v]? = some xs[v] := List.getElem?_eq_getElem lx
    have he : e1[v]? = some (entryOfKey knd xs[v]) := by rw [entry_at m1 v, hx]; rfl
    have no_ : val xs[v] = false → Q false t := fun e => by
      have : xs.all val = false := by
        rw [List.all_eq_false]
        exact ⟨_, List.getElem_mem lx, by rw [e]; exact Bool.false_ne_true⟩
      rw [this] at h; exact h
    have hit := hits xs[v] (List.getElem_mem lx)
    refine wpAny_bind (wpAny_dictEntries g1 t1 ?_)
    rw [he]
    show wpAny _ _ (holding [Value.ref xs[v].2.1, xs[v].2.2] _ >>= _) _ _ _
    refine wpAny_bind (wpAny_holding (wpAny_bind (wpAny_dictFind_heap hu (i1 _ (List.getElem_mem lx)) g2 t2 m2 i2 u2 (fun no => ?_) fun j' p' hj' => ?_)))
    · rcases hit with ⟨_, e⟩ | ⟨j, p, hj, _⟩
      · have h' := no_ e
        first
        | exact wpAny_pure (wpAny_pure h')
        | exact wpAny_pure (wpAny_pure (wpAny_pure h'))
        | exact wpAny_pure h'
      · exact absurd hj (no j p)
    rcases hit with ⟨no, _⟩ | ⟨j, p, hj, heq⟩
    · exact absurd hj' (no j' p')
    have ej : j' = j := idxH_unique u2 hj' hj
    subst ej
    rw [hj] at hj'
    have ep : p = p' := congrArg Prod.snd (Option.some.inj hj')
    subst ep
    refine wpAny_bind (wpAny_dictEntries g2 t2 ?_)
    rw [entry_at m2 j', hj]
    refine wpAny_holding (heq prog w _ _ ?_)
    cases e : val xs[v] with
    | false =>
      have h' := no_ e
      show wpAny _ _ (if (!false) = true then _ else _) _ _ _
      rw [if_pos (by decide)]
      first
      | exact wpAny_pure (wpAny_pure h')
      | exact wpAny_pure h'
    | true =>
      show wpAny _ _ (if (!true) = true then _ else _) _ _ _
      rw [if_neg (by decide)]
      refine wpAny_bind (wpAny_dictEpoch g1 t1 ?_)
      rw [if_neg (by simp)]
      refine wpAny_pure ⟨rfl, rfl, v + 1, hm, lt, fun x hx' => ?_⟩
      rw [List.take_add_one, hx] at hx'
      rcases List.mem_append.mp hx' with z | z
      · exact hpre x z
      · have : x = xs[v] := by simpa using z
        rw [this]; exact e
  · rintro q t ⟨rfl, rfl, i, hr, hi, hpre⟩
    have hin : i = e1.size := by
      rcases Nat.lt_or_ge i e1.size with z | z
      · rw [show e1.size - i = (e1.size - (i + 1)) + 1 by omega, List.range'_succ] at hr; exact nomatch hr
      · exact Nat.le_antisymm hi z
    have all : xs.all val = true := List.all_eq_true.mpr fun x hx => hpre x (by rw [hin, z1, List.take_length]; exact hx)
    rw [all] at h
    exact wpAny_pure h
theorem eqHB {c d : Addr} {xs ys : List (K × Addr × Value)} {Q : Value → Shared → Prop} (val : K × Addr × Value → Bool) (hc : (c == sysModules) = false) (hd : (d == sysModules) = false) (dc : s.heap.DictOfH knd c xs) (dd : s.heap.DictOfH knd d ys) (hu : knd.room A.in1) (hv : A.units < cLine)
    (hits : ∀ x ∈ xs, ((∀ (j : Nat) (p : Addr × Value), ys[j]? ≠ some (x.1, p)) ∧ val x = false) ∨ ∃ (j : Nat) (p : Addr × Value), ys[j]? = some (x.1, p) ∧ SeqAt.EqAt A.in1 s x.2.2 p.2 (val x)) (h : Q (.bool (decide (xs.length = ys.length) && xs.all val)) s) : wpAny (model prog w) A (compareOp .Eq (.ref c) (.ref d)) Q E s := by
  refine wpAny_richCompare_same_room (op := .Eq) dc.typeIs dd.typeIs PySem.F.slot_dict_eq (wpAny_call_entry PySem.F.slot_dict_eq dc.typeIs PySem.F.entry_dict_eq ?_ (PySem.F.args_dict_eq_2 _ _)) hv
  show wpAny _ _ (Builtin.Dict.dictSlotArgs "__eq__" ⟨[.ref c, .ref d], []⟩ >>= _) _ _ s
  refine wpAny_bind ?_
  unfold Builtin.Dict.dictSlotArgs
  refine wpAny_bind (wpAny_notOrdered_dict dc.typeIs ?_)
  show wpAny _ _ (pure (Value.ref c, Value.ref d)) _ _ s
  refine wpAny_pure (wpAny_bind (wpAny_isInstance (T := "dict") dd.typeIs PySem.F.sub_dict_dict ?_))
  simp only [Bool.not_true, Bool.false_eq_true, if_false]
  refine wpAny_bind (wpAny_pure (wpAny_bind (wpAny_pure (wpAny_bind (pairsHB val hc hd dc dd hu hits ?_)))))
  refine wpAny_pure ⟨_, rfl, ?_, ?_⟩
  · exact fun z => nomatch z
  · simpa using h
end
end Rl
namespace Rl
open PySem PySem.Spec PyProof.Rows L2
section
variable {X : Cx}
/-- alike: as many keys, and each of the one in the other with the same number -/
def sameD {κ : Type} [DecidableEq κ] (ks ls : List (κ × V)) : Bool := decide (ks.length = ls.length) && ks.all fun p => decide (valV ls p.1 = some p.2)
theorem hitsA {A : Around} {s : Shared} {kvs : List (Key × V)} {vb : List (Key × Value)} (rb : KV kvs vb) (hb : ∀ p ∈ kvs, ∃ j : Int, p.2 = .int j) {ks : List (Key × V)} {va : List (Key × Value)} (ra : KV ks va) :
    (∀ p ∈ ks, ∃ i : Int, p.2 = .int i) → PySem.W.KeqHits A s vb va (ks.all fun p => decide (valV kvs p.1 = some p.2)) := by
  unfold KV at ra
  induction ra with
  | nil => intro _; exact .nil
  | @cons p q ps qs h t ih =>
    intro hp
    obtain ⟨h1, h2⟩ := h
    obtain ⟨k, v⟩ := q
    have h1' : p.1 = k := h1
    obtain ⟨i, ei⟩ := hp p List.mem_cons_self
    have rr := rb.val p.1
    rw [List.all_cons]
    cases ev : valV kvs p.1 with
    | none =>
      rw [ev, h1'] at rr
      have hn : valueAt vb k = none := by
        cases e : valueAt vb k with
        | none => rfl
        | some y => rw [e] at rr; exact rr.elim
      rw [decide_eq_false (by intro z; cases z), Bool.false_and]
      exact .miss hn
    | some y0 =>
      obtain ⟨y, hy, ry⟩ := (show RelO (some y0) (valueAt vb p.1) from by rw [← ev]; exact rr).some_of
      rw [h1'] at hy
      have hj : ∃ j : Int, y0 = .int j := by
        unfold valV at ev
        cases ef : kvs.find? fun z => decide (z.1 = p.1) with
        | none => rw [ef] at ev; cases ev
        | some z =>
          rw [ef] at ev
          obtain ⟨j, e⟩ := hb z (List.mem_of_find?_eq_some ef)
          exact ⟨j, by rw [← e]; exact (Option.some.inj ev).symm⟩
      obtain ⟨j, rfl⟩ := hj
      rw [ei] at h2 ⊢
      obtain ⟨t1, e1⟩ := h2
      obtain ⟨t2, e2⟩ := ry
      subst e2
      have e1' : v = Value.int i t1 := e1
      subst e1'
      have eb : decide (some (V.int j) = some (V.int i)) = (i == j) := by
        by_cases c : i = j
        · subst c; simp
        · have : ¬ (some (V.int j) = some (V.int i)) := fun z => c (V.int.inj (Option.some.inj z)).symm
          rw [decide_eq_false this]
          exact (beq_eq_false_iff_ne.mpr c).symm
      rw [eb]
      exact .hit hy (SeqAt.EqAt.int_int i t1 j t2) (ih fun p hp' => hp p (List.mem_cons_of_mem _ hp'))
def rEqK : R2 := fun x y H Q => ∃ a b ks ls, x = .ref a ∧ y = .ref b ∧ H a = some (.dK ks) ∧ H b = some (.dK ls) ∧ (∀ p ∈ ks, ∃ i : Int, p.2 = .int i) ∧ (∀ p ∈ ls, ∃ i : Int, p.2 = .int i) ∧ Q (.bl (sameD ks ls)) H
theorem op_eqK (hu : X.A.units < cLine) : OpR X (compareOp .Eq) rEqK := by
  intro pins s σ H x y v u Q I rx ry h
  obtain ⟨a, b, ks, ls, rfl, rfl, ea, eb, hk, hl, q⟩ := h
  obtain rfl : v = Value.ref a := rx
  obtain rfl : u = Value.ref b := ry
  obtain ⟨_, ya, va, ra, da⟩ := dk_of I.hok ea
  obtain ⟨_, yb, vb, rb, db⟩ := dk_of I.hok eb
  refine PySem.W.keq_eq (knd := mixKind X.prog X.w) ya yb da db hu (fun _ => hitsA rb hl ra hk) (fin_bl I q ?_)
  have l1 : va.length = ks.length := ra.length.symm
  have l2 : vb.length = ls.length := rb.length.symm
  unfold sameD
  rw [l1, l2]
  by_cases c : ks.length = ls.length
  · rw [decide_eq_true c, beq_iff_eq.mpr c]
  · rw [decide_eq_false c, beq_eq_false_iff_ne.mpr c]
def intOf : Value → Int
  | .int i _ => i
  | _ => 0
def rEqT : R2 := fun x y H Q => ∃ a b ks ls, x = .ref a ∧ y = .ref b ∧ H a = some (.dT ks) ∧ H b = some (.dT ls) ∧ (∀ p ∈ ks, ∃ i : Int, p.2 = .int i) ∧ (∀ p ∈ ls, ∃ i : Int, p.2 = .int i) ∧ Q (.bl (sameD ks ls)) H
theorem op_eqT (hu : X.A.units + 1 < cLine) : OpR X (compareOp .Eq) rEqT := by
  intro pins s σ H x y v u Q I rx ry h
  obtain ⟨a, b, ks, ls, rfl, rfl, ea, eb, hk, hl, q⟩ := h
  obtain rfl : v = Value.ref a := rx
  obtain rfl : u = Value.ref b := ry
  obtain ⟨_, ya, xs, rc, dc⟩ := dt_of I.hok ea
  obtain ⟨_, yb, ys, rd, dd⟩ := dt_of I.hok eb
  obtain ⟨_, _, _, _, _, _, _, _, nd⟩ := id dd
  have all : ∀ {ks : List (List Key × V)} {xs : List (List Key × Addr × Value)}, KT H ks xs → (∀ p ∈ ks, ∃ i : Int, p.2 = .int i) → xs.all (fun e => decide (valV ls e.1 = some (V.int (intOf e.2.2)))) = ks.all fun p => decide (valV ls p.1 = some p.2) := by
    intro ks xs r
    unfold KT at r
    induction r with
    | nil => exact fun _ => rfl
    | @cons p q ps qs h t ih =>
      intro hp
      obtain ⟨i, ei⟩ := hp p List.mem_cons_self
      obtain ⟨h1, _, h3⟩ := h
      rw [List.all_cons, List.all_cons, ih fun z hz => hp z (List.mem_cons_of_mem _ hz), ← h1]
      rw [ei] at h3 ⊢
      obtain ⟨t1, e1⟩ := h3
      rw [e1]; rfl
  refine eqHB (knd := tupleKind (mixKind X.prog X.w)) (fun e => decide (valV ls e.1 = some (V.int (intOf e.2.2)))) ya yb dc dd (tupleKind_room_in1 hu) (by omega) (fun e he => ?_) (fin_bl I q ?_)
  · obtain ⟨p, mp, r1, r2, r3⟩ := paired_mem rc e he
    obtain ⟨i, ei⟩ := hk p mp
    rw [ei] at r3
    obtain ⟨t1, e1⟩ := r3
    have rv := rd.val e.1
    have hm : ∀ t, atKey ys e.1 = some t → ∃ j : Nat, ys[j]? = some (e.1, t) := fun t ea => by
      unfold atKey at ea
      cases ef : ys.find? fun z => decide (z.1 = e.1) with
      | none => simp [ef] at ea
      | some z =>
        have hz := List.mem_of_find?_eq_some ef
        have hz1 : z.1 = e.1 := by simpa using List.find?_some ef
        obtain ⟨j, hj, ej⟩ := List.mem_iff_getElem.mp hz
        refine ⟨j, ?_⟩
        rw [List.getElem?_eq_getElem hj, ej]
        have : z.2 = t := by simpa [ef] using ea
        rw [← this, ← hz1]
    cases ev : valV ls e.1 with
    | none =>
      rw [ev] at rv
      refine .inl ⟨fun j p' hj => ?_, decide_eq_false (by intro z; cases z)⟩
      have := atKey_of_get nd hj
      rw [this] at rv
      exact rv.elim
    | some y0 =>
      rw [ev] at rv
      cases ea : atKey ys e.1 with
      | none => rw [ea] at rv; exact (show False from rv).elim
      | some t =>
        rw [ea] at rv
        have rt : RelV y0 t.2 := rv
        obtain ⟨j, hj⟩ := hm t ea
        have hy : ∃ k : Int, y0 = .int k := by
          unfold valV at ev
          cases ef : ls.find? fun z => decide (z.1 = e.1) with
          | none => rw [ef] at ev; cases ev
          | some z =>
            rw [ef] at ev
            obtain ⟨k, e'⟩ := hl z (List.mem_of_find?_eq_some ef)
            exact ⟨k, by rw [← e']; exact (Option.some.inj ev).symm⟩
        obtain ⟨k, rfl⟩ := hy
        obtain ⟨t2, e2⟩ := rt
        refine .inr ⟨j, t, hj, ?_⟩
        have eb : decide (some (V.int k) = some (V.int (intOf e.2.2))) = (i == k) := by
          rw [e1]
          show decide (some (V.int k) = some (V.int i)) = _
          by_cases c : i = k
          · subst c; simp
          · have : ¬ (some (V.int k) = some (V.int i)) := fun z => c (V.int.inj (Option.some.inj z)).symm
            rw [decide_eq_false this]
            exact (beq_eq_false_iff_ne.mpr c).symm
        rw [eb, e1, e2]
        exact SeqAt.EqAt.int_int i t1 k t2
  · unfold sameD
    rw [all rc hk, Paired.length rc, Paired.length rd]
end
end Rl
end
section
set_option maxHeartbeats 2000000
namespace Rl
open PySem PySem.Spec PyProof.Rows L2
section
variable {X : Cx} {n : Nat}
/-! ### == of two own objects, as it comes -/
def spEqB (R : Bool → Addr → Addr → Hp → Prop) : Sp := fun vs H Q _ => ∃ a b c, vs = [.ref a, .ref b] ∧ R c a b H ∧ ∀ H', Ext H H' → Q (.bl c) H'
def rEqB (C : Addr) (R : Bool → Addr → Addr → Hp → Prop) : R2 := fun x y H Q => ∃ a b c dx dy fs gs, x = .ref a ∧ y = .ref b ∧ H a = some (.ins C dx fs) ∧ H b = some (.ins C dy gs) ∧ R c a b H ∧ ∀ H', Ext H H' → Q (.bl c) H'
theorem op_eqB {CX : CXT} {C f : Addr} {fd : FuncData} {ps : List Str} {R : Bool → Addr → Addr → Hp → Prop} {E : XK} (F : FnOk X.prog X.w X.K X.mg X.base CX n f fd ps (spEqB R))
    (hs : PySem.W.findIn X.K (.ref C) "__eq__" = some (some (.ref f))) (hf : PySem.W.isFn X.K (.ref f) = true) (hb : Binds X.K fd ps []) (hx : Passes CX X E) (hr : Room n X.A) : OpR X (compareOp .Eq) (rEqB C R) := by
  intro pins s σ H x y u v Q I rx ry h
  obtain ⟨a, b, c, dx, dy, fs, gs, rfl, rfl, ha, hb', hR, q⟩ := h
  cases rx
  cases ry
  obtain ⟨mA, J, _⟩ := ins_get I.hok ha
  obtain ⟨mB, J', _⟩ := ins_get I.hok hb'
  obtain ⟨od, J, _⟩ := J.look
  obtain ⟨od', J', _⟩ := J'.look
  obtain ⟨m, hF⟩ := I.fr
  show wpAny (model X.prog X.w) X.A (richCompare .Eq (.ref a) (.ref b)) (EP X pins σ Q) X.xe s
  refine PySem.W.cmp_K (op := .Eq) (tb := .ref C) hr.units0 hF I.ok.mod.kin J J'.type (by simp [PySem.W.notFirst]) hs hf ?_
  have hsp : spEqB R [.ref a, .ref b] H (fun v H' => v = .bl c ∧ Ext H H') E := ⟨a, b, c, rfl, hR, fun H' e => ⟨rfl, e⟩⟩
  have e0 : Env0 X.prog X.w X.K X.mg X.base X.A X.stack s H := I.env0
  have hl := F.len _ _ _ _ hsp
  have r2 : Vals [V.ref a, V.ref b] [Value.ref a, Value.ref b] := .cons rfl (.cons rfl .nil)
  refine wpAny_call (codeAny_mono (F.run X.A X.stack s H ⟨[.ref a, .ref b], []⟩ [.ref a, .ref b] [.ref a, .ref b] _ E hr e0 (by
    have := hb s [.ref a, .ref b] I.kIn (by simpa using hl)
    simpa using this) r2 hsp) fun r s' hq => ?_)
  cases r with
  | error e => exact hx pins σ H s e s' I hq
  | ok fl =>
    cases fl with
    | ret w =>
      obtain ⟨z, H', I', rz, ez, ex⟩ := I.after hq
      subst ez
      cases rz
      exact ⟨.bl c, H', I', rfl, q H' ex⟩
    | next => exact False.elim hq
    | brk => exact False.elim hq
    | cont => exact False.elim hq
end
end Rl
end
section
set_option maxHeartbeats 2000000
/-! dict(xs) of a list of pairs whose keys are tuples -/
namespace Rl
open PySem PySem.Spec PyProof.Rows L2
def mergeT (kvs more : List (List Key × V)) : List (List Key × V) := more.foldl (fun acc kv => putK acc kv.1 kv.2) kvs
theorem KT.mergeT {H : Hp} : ∀ {more : List (List Key × V)} {ms : List (List Key × Addr × Value)} {kvs : List (List Key × V)} {xs : List (List Key × Addr × Value)}, KT H more ms → KT H kvs xs → KT H (mergeT kvs more) (storedAllH xs ms) := by
  intro more ms kvs xs r
  unfold KT at r
  induction r generalizing kvs xs with
  | nil => exact fun q => q
  | @cons p m ps ms' h t ih =>
    intro q
    have e : KT H (putK kvs p.1 p.2) (storedH xs m.1 m.2.1 m.2.2) := by
      rw [← h.1]
      exact q.put p.1 h.2.1 h.2.2
    exact ih e
theorem length_mergeT : ∀ (more kvs : List (List Key × V)), (mergeT kvs more).length ≤ kvs.length + more.length
  | [], kvs => by show kvs.length ≤ kvs.length + 0; omega
  | p :: r, kvs => by
    have h1 := length_mergeT r (putK kvs p.1 p.2)
    have h2 : (putK kvs p.1 p.2).length ≤ kvs.length + 1 := by
      unfold putK
      split
      · rw [List.length_map]; omega
      · rw [List.length_append]; show kvs.length + 1 ≤ _; omega
    show (mergeT (putK kvs p.1 p.2) r).length ≤ _
    rw [List.length_cons]; omega
section
variable {X : Cx} {pins : List (Addr × Obj)} {σ : L2.St} {H : Hp} {s : Shared}
theorem pairsT_of (I : Inv X pins σ H s) : ∀ {ps : List Addr} {kvs : List (List Key × V)}, Paired (fun p (kv : List Key × V) => ∃ q, SqT X.K H p [.ref q, kv.2] ∧ H q = some (.tup (kv.1.map kV))) ps kvs →
    ∃ ms : List (List Key × Addr × Value), KT H kvs ms ∧ ms.length = ps.length ∧ ∀ (j : Nat) (m : List Key × Addr × Value), ms[j]? = some m → ∃ b, ps[j]? = some b ∧ IsTup s.heap b #[.ref m.2.1, m.2.2]
  | _, _, .nil => ⟨[], .nil, rfl, fun j q e => by simp at e⟩
  | _, _, .cons (a := p) (b := kv) h t => by
    obtain ⟨ms, r, hl, hp⟩ := pairsT_of I t
    obtain ⟨q, hq, hk⟩ := h
    obtain ⟨its, rv, ht, _⟩ := I.tuple hq
    obtain ⟨u, y, ei, ru, ry⟩ := vals2 rv
    subst ei
    cases ru
    refine ⟨(kv.1, q, y) :: ms, .cons ⟨rfl, hk, ry⟩ r, by rw [List.length_cons, List.length_cons, hl], fun j m e => ?_⟩
    cases j with
    | zero =>
      have e' : (kv.1, q, y) = m := Option.some.inj e
      subst e'
      exact ⟨p, rfl, ht⟩
    | succ j => exact hp j m (by simpa using e)
/-- dict(xs) of a list of pairs keyed by tuples -/
theorem call_dictTP (hcalm : X.calm = true) (hu : X.A.units + 2 < cLine) : CallR X (.type "dict") (fun xs H Q => ∃ (a : Addr) (ps : List Addr) (kvs : List (List Key × V)), xs = [.ref a] ∧ SqL X.K H a (ps.map V.ref) ∧ Paired (fun p (kv : List Key × V) => ∃ q, SqT X.K H p [.ref q, kv.2] ∧ H q = some (.tup (kv.1.map kV))) ps kvs ∧
    ∀ p, H p = none → Q (.ref p) (upd H p (.dT (mergeT [] kvs)))) := by
  intro pins s σ H xs us Q I r q
  obtain ⟨a, ps, kvs, rfl, hq, hp, q⟩ := q
  obtain ⟨u, rfl, rx⟩ := vals1 r
  cases rx
  obtain ⟨its, rv, ⟨o, n, ho, hc, hd, hdat⟩, hz⟩ := I.list hq
  have ei := refs_at rv
  subst ei
  rw [List.length_map] at hz
  obtain ⟨ms, rel, hl, hpr⟩ := pairsT_of I hp
  have key : ∀ (h' : Heap), (∀ b o, b ≠ s.heap.objs.size → b ∉ ([] : List Addr) → s.heap.get? b = some o → h'.get? b = some o) → ∀ x ∈ ms, (tupleKind (mixKind X.prog X.w)).is h' x.1 x.2.1 := fun h' k x hx => by
    have all : ∀ {l : List (List Key × V)} {m : List (List Key × Addr × Value)}, KT H l m → ∀ x ∈ m, H x.2.1 = some (.tup (x.1.map kV)) := by
      intro l m z
      induction z with
      | nil => intro x hx; exact nomatch hx
      | @cons p q ps qs hq t ih =>
        intro x hx
        rcases List.mem_cons.mp hx with e | hx
        · subst e
          rw [← hq.1]; exact hq.2.1
        · exact ih x hx
    obtain ⟨o, its, n, h1, h2, h3, h4⟩ := key_of I.hok (all rel x hx)
    exact ⟨o, its, n, k _ _ (Nat.ne_of_lt (Heap.lt_size h1)) List.not_mem_nil h1, h2, h3, h4⟩
  have P := PairArg.list (prog := X.prog) (w := X.w) a (ps.map Value.ref).toArray (fun j => ps.getD j 0) (ms.map fun m => (Value.ref m.2.1, m.2.2))
  refine PySem.call_dict_pairsH (knd := tupleKind (mixKind X.prog X.w)) (ps := ms) P (I.ok.hd hcalm) (tupleKind_room_in1 (show X.A.in1.units + 1 < cLine from hu)) ⟨⟨o, n, ho, hc, hd, hdat⟩, ?_, fun j k v e => ?_⟩ ⟨(List.length_map _).symm, fun i k v e => ?_⟩ key (by rw [List.length_map, hl]; exact hz) fun h' tk hd' k => ?_
  · simp [hl]
  · rw [List.getElem?_map] at e
    obtain ⟨m, hm, e2⟩ := Option.map_eq_some_iff.mp e
    obtain ⟨b, h1, h2⟩ := hpr j m hm
    injection e2 with e3 e4
    subst e3 e4
    have gb : ps.getD j 0 = b := by simp [List.getD, h1]
    refine ⟨by simp [h1, List.getD], ?_⟩
    show PairAt s.heap (ps.getD j 0) _ _
    rw [gb]
    exact .inl h2
  · have e' : (ms.map fun m => (Value.ref m.2.1, m.2.2))[i]? = some (k, v) := e
    rw [List.getElem?_map] at e'
    obtain ⟨m, hm, e2⟩ := Option.map_eq_some_iff.mp e'
    injection e2 with e3 e4
    exact ⟨m.1, m.2.1, by rw [hm, ← e4], e3.symm⟩
  · have hm : (s.heap.objs.size == sysModules) = false := beq_eq_false_iff_ne.mpr (Nat.ne_of_gt I.big)
    have hlen : (mergeT [] kvs).length ≤ sizeLine := by
      refine Nat.le_trans (length_mergeT kvs []) ?_
      rw [List.length_nil, Nat.zero_add, Paired.length rel, hl]
      exact hz
    have fr := I.hok.fresh (Nat.le_refl s.heap.objs.size)
    obtain ⟨o2, es, ep, h1, h2, h3, h4, _, h5⟩ := hd'
    have rel2 : KT (upd H s.heap.objs.size (.dT (mergeT [] kvs))) (mergeT [] kvs) (storedAllH [] ms) := (KT.mergeT rel .nil).keeps fun b ys e => by rw [upd_ne (ne_of_none e fr)]; exact e
    exact ⟨.ref s.heap.objs.size, upd H s.heap.objs.size (.dT (mergeT [] kvs)), I.laid (t' := tk) (fun b u e => k b u List.not_mem_nil e) (Nat.le_refl _) (show ObjOk X.prog X.w _ _ _ (.dT (mergeT [] kvs)) from ⟨hlen, hm, storedAllH [] ms, rel2, o2, es, ep, h1, h2, h3, h4, h5⟩), rfl, q _ fr⟩
end
end Rl
end
section
set_option maxHeartbeats 2000000
/-! == where a value of a built-in kind stands on the left and an own object on the right, or the other way about -/
namespace Rl
open PySem PySem.Spec PyProof.Rows L2
open PySem.AutoSeq1 (wpAny_loadPart')
theorem m_int_own (b : Int) (u : Tok) (l C dx : Addr) : Meets (Builtin.«int.__eq__» ⟨[.int b u, .ref l], []⟩) (fun _ R s => s.heap.get? l = some (PySem.W.instObj C dx) ∧ R (.ok (.ret .notImplemented)) s) :=
  .of_wp fun prog w A R s h => by
    obtain ⟨hp, g, d, tk, os⟩ := s
    obtain ⟨hl, h⟩ := h
    unfold PySem.W.instObj at hl
    wp_walk using wpAny_loadPart' hl, wpAny_load hl
    exact ⟨_, rfl, h⟩
theorem m_str_own (b : Str) (u : Tok) (l C dx : Addr) : Meets (Builtin.«str.__eq__» ⟨[.str b u, .ref l], []⟩) (fun _ R s => s.heap.get? l = some (PySem.W.instObj C dx) ∧ R (.ok (.ret .notImplemented)) s) :=
  .of_wp fun prog w A R s h => by
    obtain ⟨hp, g, d, tk, os⟩ := s
    obtain ⟨hl, h⟩ := h
    unfold PySem.W.instObj at hl
    wp_walk using wpAny_loadPart' hl, wpAny_load hl
    exact ⟨_, rfl, h⟩
theorem m_none_own (l : Addr) : Meets (Builtin.«NoneType.__eq__» ⟨[.none, .ref l], []⟩) (fun _ R s => R (.ok (.ret .notImplemented)) s) :=
  .of_wp fun prog w A R s h => by
    obtain ⟨hp, g, d, tk, os⟩ := s
    wp_walk
    exact ⟨_, rfl, h⟩
section
variable {prog : Program} {w : World}
theorem m_tup_own (a l C dx : Addr) (items : Array Value) (n : Nat) (dd : Option Addr) (sl : Array (Option Value)) :
    MeetsIn prog w (Builtin.«tuple.__eq__» ⟨[.ref a, .ref l], []⟩) (fun _ R s => s.heap.get? a = some { cls := .type "tuple", dict := dd, data := .seq items n, slots := sl } ∧ s.heap.get? l = some (PySem.W.instObj C dx) ∧
      PySem.W.Looks (model prog w) s.heap (isSubtype (.ref C) (.type "tuple")) false ∧ R (.ok (.ret .notImplemented)) s) := fun A R s hh => by
  obtain ⟨ha, hl, hs, h⟩ := hh
  obtain ⟨hp, g, d, tk, os⟩ := s
  unfold PySem.W.instObj at hl
  have f1 : ∀ {A : Around} {Q : Bool → Shared → Prop} {E : Value → Shared → Prop}, Q false ⟨hp, g, d, tk, os⟩ → wpAny (model prog w) A (isSubtype (.ref C) (.type "tuple")) Q E ⟨hp, g, d, tk, os⟩ := fun q => hs.here q
  wp_walk using wpAny_loadPart' hl, wpAny_load hl, wpAny_loadPart' ha, wpAny_load ha, f1
  exact h
theorem m_dict_own (a l C dx : Addr) (es : Array DictEntry) (n : Nat) (dd : Option Addr) (sl : Array (Option Value)) :
    MeetsIn prog w (Builtin.«dict.__eq__» ⟨[.ref a, .ref l], []⟩) (fun _ R s => s.heap.get? a = some { cls := .type "dict", dict := dd, data := .dict es n, slots := sl } ∧ s.heap.get? l = some (PySem.W.instObj C dx) ∧
      PySem.W.Looks (model prog w) s.heap (isSubtype (.ref C) (.type "dict")) false ∧ R (.ok (.ret .notImplemented)) s) := fun A R s hh => by
  obtain ⟨ha, hl, hs, h⟩ := hh
  obtain ⟨hp, g, d, tk, os⟩ := s
  unfold PySem.W.instObj at hl
  have f1 : ∀ {A : Around} {Q : Bool → Shared → Prop} {E : Value → Shared → Prop}, Q false ⟨hp, g, d, tk, os⟩ → wpAny (model prog w) A (isSubtype (.ref C) (.type "dict")) Q E ⟨hp, g, d, tk, os⟩ := fun q => hs.here q
  wp_walk using wpAny_loadPart' hl, wpAny_load hl, wpAny_loadPart' ha, wpAny_load ha, f1
  exact h
/-- a == x, a of a built-in kind that knows no such object: x's own == answers -/
theorem cmpR_K {A : Around} {E : Value → Shared → Prop} {s : Shared} {K : PySem.W.Frag} {x C L f : Addr} {h₀ : Heap} {m : Str → Option Value} {ox : Obj} {od : Option Obj} {T id : String} {a : Value} {Q : Value → Shared → Prop}
    (hu : A.units < cLine) (F : PyProof.Rows.Fr h₀ L s.heap m) (X₀ : K.In h₀) (I : PySem.W.InstAt s.heap x ox C od) (ha : s.TypeIs a T) (hs1 : PySem.W.subIn K (.ref C) (.type T) = some false) (sl : Slot T (cmpInfo .Eq).2.1 id)
    (hc : wpAny (model prog w) A (call (.builtin id) [a, .ref x]) (fun v s' => v = .notImplemented ∧ s' = s) E s)
    (hs : PySem.W.findIn K (.ref C) (cmpInfo .Eq).2.2 = some (some (.ref f))) (hf : PySem.W.isFn K (.ref f) = true)
    (h : wpAny (model prog w) A (call (.ref f) [.ref x, a]) (PySem.W.CmpBack Q) E s) : wpAny (model prog w) A (richCompare .Eq a (.ref x)) Q E s := by
  have X := X₀.keeps F.keep
  have two : wpAny (model prog w) A (tryCompare (.ref x) (cmpInfo .Eq).2.2 a) (fun r s' => ∃ v, r = some v ∧ Q v s') E s := by
    unfold tryCompare
    refine wpAny_bind (PySem.W.ifBound_K X I hs hf (wpAny_mono h (fun v s' hv => ?_) fun _ _ e => e))
    cases v <;> first | exact hv.elim | exact wpAny_pure ⟨_, rfl, hv⟩
  have ne : (Value.type T != Value.ref C) = true := by
    cases e : (Value.type T == Value.ref C) with
    | false => simp [bne, e]
    | true => exact absurd (eq_of_beq e) (by intro z; cases z)
  unfold richCompare
  simp only [ha.oneThing_none]
  refine wpAny_holding (wpAny_bind (wpAny_cRoomFor hu ?_))
  refine wpAny_bind (wpAny_typeOf ha (wpAny_bind (I.type.here ?_)))
  simp only [ne, if_true]
  refine wpAny_bind ((PySem.W.looks_subIn X hs1).here ?_)
  simp only [Bool.false_eq_true, if_false, Bool.not_false, if_true]
  refine wpAny_bind (m := tryCompare a _ _) (wpAny_tryCompare_declines ha sl (wpAny_mono hc (fun v s1 hv => ?_) fun _ _ e => e))
  obtain ⟨e1, e2⟩ := hv
  subst e2
  refine ⟨e1, ?_⟩
  refine wpAny_bind (wpAny_mono two (fun r s' z => ?_) fun _ _ e => e)
  obtain ⟨v, rfl, hq⟩ := z
  exact wpAny_pure hq
end
section
variable {X : Cx} {n : Nat}
/-- the own == of an object and anything -/
def spEqY (R : Bool → Addr → V → Hp → Prop) : Sp := fun vs H Q _ => ∃ (a : Addr) (y : V) (c : Bool), vs = [.ref a, y] ∧ R c a y H ∧ ∀ H', Ext H H' → Q (.bl c) H'
/-- the call of an own ==, as richCompare wants it -/
theorem own_eq {CX : CXT} {f : Addr} {fd : FuncData} {ps : List Str} {R : Bool → Addr → V → Hp → Prop} {E : XK} (F : FnOk X.prog X.w X.K X.mg X.base CX n f fd ps (spEqY R)) (hb : Binds X.K fd ps []) (hx : Passes CX X E) (hr : Room n X.A)
    {pins : List (Addr × Obj)} {σ : L2.St} {H : Hp} {s : Shared} {a : Addr} {y : V} {u : Value} {c : Bool} {Q : V → Hp → Prop} (I : Inv X pins σ H s) (ry : RelV y u) (hR : R c a y H) (q : ∀ H', Ext H H' → Q (.bl c) H') :
    wpAny (model X.prog X.w) X.A (call (.ref f) [.ref a, u]) (PySem.W.CmpBack (EP X pins σ Q)) X.xe s := by
  have hsp : spEqY R [.ref a, y] H (fun v H' => v = .bl c ∧ Ext H H') E := ⟨a, y, c, rfl, hR, fun H' e => ⟨rfl, e⟩⟩
  have e0 : Env0 X.prog X.w X.K X.mg X.base X.A X.stack s H := I.env0
  have hl := F.len _ _ _ _ hsp
  have r2 : Vals [V.ref a, y] [Value.ref a, u] := .cons rfl (.cons ry .nil)
  refine wpAny_call (codeAny_mono (F.run X.A X.stack s H ⟨[.ref a, u], []⟩ [.ref a, u] [.ref a, y] _ E hr e0 (by
    have := hb s [.ref a, u] I.kIn (by simpa using hl)
    simpa using this) r2 hsp) fun r s' hq => ?_)
  cases r with
  | error e => exact hx pins σ H s e s' I hq
  | ok fl =>
    cases fl with
    | ret w =>
      obtain ⟨z, H', I', rz, ez, ex⟩ := I.after hq
      subst ez
      cases rz
      exact ⟨.bl c, H', I', rfl, q H' ex⟩
    | next => exact False.elim hq
    | brk => exact False.elim hq
    | cont => exact False.elim hq
/-- a thing of a built-in kind: None, a number, a text, a tuple, a dict -/
inductive Kd (H : Hp) : V → String → Prop
  | non : Kd H .non "NoneType"
  | int (i : Int) : Kd H (.int i) "int"
  | str (x : Str) : Kd H (.str x) "str"
  | tup {a : Addr} {xs : List V} : H a = some (.tup xs) → Kd H (.ref a) "tuple"
  | dK {a : Addr} {kvs : List (Key × V)} : H a = some (.dK kvs) → Kd H (.ref a) "dict"
/-- what is asked of the class -/
structure NoKd (K : PySem.W.Frag) (C : Addr) : Prop where
  non : PySem.W.subIn K (.ref C) (.type "NoneType") = some false
  int : PySem.W.subIn K (.ref C) (.type "int") = some false
  str : PySem.W.subIn K (.ref C) (.type "str") = some false
  tup : PySem.W.subIn K (.ref C) (.type "tuple") = some false
  dic : PySem.W.subIn K (.ref C) (.type "dict") = some false
/-- x == y of an own object of the class C and anything; of such a thing and an own object -/
def rEqO (K : PySem.W.Frag) (C : Addr) (R : Bool → Addr → V → Hp → Prop) : R2 := fun x y H Q => ∃ (c : Bool) (a dx : Addr) (fs : List (Str × V)), H a = some (.ins C dx fs) ∧ (∀ H', Ext H H' → Q (.bl c) H') ∧
  ((x = .ref a ∧ (∃ t, TyOf K H y t ∧ PySem.W.notFirst K C t = true) ∧ R c a y H) ∨ (y = .ref a ∧ (∃ T, Kd H x T) ∧ R c a x H))
theorem op_eqO {CX : CXT} {C f : Addr} {fd : FuncData} {ps : List Str} {R : Bool → Addr → V → Hp → Prop} {E : XK} (F : FnOk X.prog X.w X.K X.mg X.base CX n f fd ps (spEqY R))
    (hs : PySem.W.findIn X.K (.ref C) "__eq__" = some (some (.ref f))) (hf : PySem.W.isFn X.K (.ref f) = true) (nk : NoKd X.K C) (hb : Binds X.K fd ps []) (hx : Passes CX X E) (hr : Room n X.A) : OpR X (compareOp .Eq) (rEqO X.K C R) := by
  intro pins s σ H x y u v Q I rx ry h
  obtain ⟨c, a, dx, fs, ha, q, h⟩ := h
  obtain ⟨mA, J0, _⟩ := ins_get I.hok ha
  obtain ⟨od, J, _⟩ := J0.look
  obtain ⟨m, hF⟩ := I.fr
  have hi : s.heap.get? a = some (PySem.W.instObj C dx) := J0.1
  rcases h with ⟨rfl, ⟨t, ty, nf⟩, hR⟩ | ⟨rfl, ⟨T, kd⟩, hR⟩
  · cases rx
    obtain ⟨P, Z, p, _⟩ := kit_of I ry (.base ty)
    show wpAny (model X.prog X.w) X.A (richCompare .Eq (.ref a) v) (EP X pins σ Q) X.xe s
    exact PySem.W.cmp_K (op := .Eq) (tb := t) hr.units0 hF I.ok.mod.kin J (Z.ty _ _ I.kIn p) nf hs hf (own_eq F hb hx hr I ry hR q)
  · cases ry
    show wpAny (model X.prog X.w) X.A (richCompare .Eq u (.ref a)) (EP X pins σ Q) X.xe s
    have go : ∀ {T id : String}, s.TypeIs u T → PySem.W.subIn X.K (.ref C) (.type T) = some false → Slot T (cmpInfo .Eq).2.1 id →
        wpAny (model X.prog X.w) X.A (call (.builtin id) [u, .ref a]) (fun v s' => v = .notImplemented ∧ s' = s) X.xe s → wpAny (model X.prog X.w) X.A (richCompare .Eq u (.ref a)) (EP X pins σ Q) X.xe s :=
      fun ht hsub sl hc => cmpR_K hr.units0 hF I.ok.mod.kin J ht hsub sl hc hs hf (own_eq F hb hx hr I rx hR q)
    cases kd with
    | non =>
      cases rx
      exact go rfl nk.non PySem.F.slot_NoneType_eq (call_meets PySem.F.slot_NoneType_eq rfl PySem.F.entry_NoneType_eq (PySem.F.args_NoneType_eq_2 _ _) (m_none_own a) ⟨rfl, rfl⟩)
    | int i =>
      obtain ⟨t, rfl⟩ := rx
      exact go rfl nk.int PySem.F.slot_int_eq (call_meets PySem.F.slot_int_eq rfl PySem.F.entry_int_eq (PySem.F.args_int_eq_2 _ _) (m_int_own i t a C dx) ⟨hi, rfl, rfl⟩)
    | str z =>
      obtain ⟨t, rfl⟩ := rx
      exact go rfl nk.str PySem.F.slot_str_eq (call_meets PySem.F.slot_str_eq rfl PySem.F.entry_str_eq (PySem.F.args_str_eq_2 _ _) (m_str_own z t a C dx) ⟨hi, rfl, rfl⟩)
    | @tup b xs hb' =>
      cases rx
      obtain ⟨_, its, r, o, h1, h2, k, h3⟩ := (show ObjOk X.prog X.w H s.heap b (.tup xs) from I.hok b _ hb')
      obtain ⟨cls, dd, data, sl⟩ := o
      simp only at h2 h3
      subst h2 h3
      exact go ⟨_, h1, rfl⟩ nk.tup PySem.F.slot_tuple_eq (call_meetsIn PySem.F.slot_tuple_eq ⟨_, h1, rfl⟩ PySem.F.entry_tuple_eq (PySem.F.args_tuple_eq_2 _ _) (m_tup_own b a C dx _ _ _ _) ⟨h1, hi, PySem.W.looks_subIn I.kIn nk.tup, rfl, rfl⟩)
    | @dK b kvs hb' =>
      cases rx
      obtain ⟨_, _, vs, r, o, es, ep, h1, ⟨h2, _, _⟩, h3, _⟩ := dk_of I.hok hb'
      obtain ⟨cls, dd, data, sl⟩ := o
      simp only at h2 h3
      subst h2 h3
      exact go ⟨_, h1, rfl⟩ nk.dic PySem.F.slot_dict_eq (call_meetsIn PySem.F.slot_dict_eq ⟨_, h1, rfl⟩ PySem.F.entry_dict_eq (PySem.F.args_dict_eq_2 _ _) (m_dict_own b a C dx _ _ _ _) ⟨h1, hi, PySem.W.looks_subIn I.kIn nk.dic, rfl, rfl⟩)
end
end Rl
end
section
set_option maxHeartbeats 4000000
namespace Nl
open PySem PySem.Spec PyProof.Rows L2 Nt
/-! ### alike and unlike dicts, nets, stands -/
section
variable {κ : Type} [DecidableEq κ]
theorem valV_in {ks : List (κ × V)} (nd : (ks.map Prod.fst).Nodup) {p : κ × V} (h : p ∈ ks) : valV ks p.1 = some p.2 := by
  induction ks with
  | nil => cases h
  | cons x r ih =>
    rw [List.map_cons, List.nodup_cons] at nd
    unfold valV
    rw [List.find?_cons]
    by_cases c : x.1 = p.1
    · rw [decide_eq_true c]
      rcases List.mem_cons.mp h with e | e
      · rw [e]; rfl
      · exact absurd (List.mem_map.mpr ⟨p, e, c.symm⟩) nd.1
    · rw [decide_eq_false c]
      rcases List.mem_cons.mp h with e | e
      · exact absurd (by rw [e]) c
      · exact ih nd.2 e
theorem valV_out {ks : List (κ × V)} {k : κ} {v : V} (h : valV ks k = some v) : (k, v) ∈ ks := by
  unfold valV at h
  obtain ⟨p, hp, e⟩ := Option.map_eq_some_iff.mp h
  have h1 := List.mem_of_find?_eq_some hp
  have h2 := List.find?_some hp
  have h3 : p.1 = k := by simpa using h2
  rw [← h3, ← e]; exact h1
theorem lenK {l m : List κ} (nd : l.Nodup) (h : ∀ x ∈ l, x ∈ m) : l.length ≤ m.length := by
  induction l generalizing m with
  | nil => exact Nat.zero_le _
  | cons x r ih =>
    obtain ⟨n1, n2⟩ := List.nodup_cons.mp nd
    have pm := List.perm_cons_erase (h x List.mem_cons_self)
    have := ih (m := m.erase x) n2 fun y hy => by
      rcases List.mem_cons.mp (pm.mem_iff.mp (h y (List.mem_cons_of_mem _ hy))) with e | e
      · exact absurd (e ▸ hy) n1
      · exact e
    rw [pm.length_eq, List.length_cons, List.length_cons]
    omega
theorem sameD_true {ks ls : List (κ × V)} (n1 : (ks.map Prod.fst).Nodup) (n2 : (ls.map Prod.fst).Nodup) (h : Rl.sameD ks ls = true) (k : κ) : valV ks k = valV ls k := by
  unfold Rl.sameD at h
  rw [Bool.and_eq_true, decide_eq_true_iff, List.all_eq_true] at h
  obtain ⟨hl, al⟩ := h
  cases e : valV ks k with
  | some v => exact (of_decide_eq_true (al _ (valV_out e))).symm
  | none =>
    cases e2 : valV ls k with
    | none => rfl
    | some v =>
      exfalso
      have nk : k ∉ ks.map Prod.fst := fun m => by
        obtain ⟨p, hp, rfl⟩ := List.mem_map.mp m
        rw [valV_in n1 hp] at e; cases e
      have sub : ∀ x ∈ k :: ks.map Prod.fst, x ∈ ls.map Prod.fst := fun x hx => by
        rcases List.mem_cons.mp hx with rfl | hx
        · exact List.mem_map.mpr ⟨_, valV_out e2, rfl⟩
        · obtain ⟨p, hp, rfl⟩ := List.mem_map.mp hx
          exact List.mem_map.mpr ⟨_, valV_out (of_decide_eq_true (al p hp)), rfl⟩
      have := lenK (List.nodup_cons.mpr ⟨nk, n1⟩) sub
      rw [List.length_cons, List.length_map, List.length_map] at this
      omega
theorem sameD_refl {ks : List (κ × V)} (n1 : (ks.map Prod.fst).Nodup) : Rl.sameD ks ks = true := by
  unfold Rl.sameD
  rw [decide_eq_true rfl, Bool.true_and, List.all_eq_true]
  exact fun p hp => decide_eq_true (valV_in n1 hp)
theorem sameD_perm {ks ls : List (κ × V)} (n1 : (ks.map Prod.fst).Nodup) (h : ks.Perm ls) : Rl.sameD ks ls = true := by
  unfold Rl.sameD
  rw [decide_eq_true h.length_eq, Bool.true_and, List.all_eq_true]
  exact fun p hp => decide_eq_true (valV_in ((h.map Prod.fst).nodup_iff.mp n1) (h.mem_iff.mp hp))
theorem sameD_dif {ks ls : List (κ × V)} (n1 : (ks.map Prod.fst).Nodup) (n2 : (ls.map Prod.fst).Nodup) (k : κ) (h : valV ks k ≠ valV ls k) : Rl.sameD ks ls = false := by
  cases e : Rl.sameD ks ls with
  | false => rfl
  | true => exact absurd (sameD_true n1 n2 e k) h
end
theorem bk_nd {B : Br} (h : (nms B).Nodup) : ((bk B).map Prod.fst).Nodup := by
  have e : (bk B).map Prod.fst = (nms B).map fun z => (Sum.inr z : Key) := by
    unfold bk nms
    rw [List.map_map, List.map_map]; rfl
  rw [e]
  exact List.Pairwise.map _ (fun a b (hab : a ≠ b) c => hab (Sum.inr.inj c)) h
theorem pt_nd {P : Pi} (h : (P.map Prod.fst).Nodup) : ((pt P).map Prod.fst).Nodup := by
  have e : (pt P).map Prod.fst = (P.map Prod.fst).map Rl.pk := by
    unfold pt
    rw [List.map_map, List.map_map]; rfl
  rw [e]
  refine List.Pairwise.map _ (fun a b (hab : a ≠ b) c => hab ?_) h
  obtain ⟨a1, a2⟩ := a
  obtain ⟨b1, b2⟩ := b
  have c' : [(Sum.inr a1 : Key), Sum.inr a2] = [Sum.inr b1, Sum.inr b2] := c
  injection c' with c1 c2
  injection c2 with c2 _
  rw [Sum.inr.inj c1, Sum.inr.inj c2]
/-- nets alike, whatever they are -/
def netSame (B : Br) (P : Pi) (B2 : Br) (P2 : Pi) : Bool := Rl.sameD (bk B) (bk B2) && Rl.sameD (pt P) (pt P2)
def stSame (B : Br) (P : Pi) (U W : Br) (B2 : Br) (P2 : Pi) (U2 W2 : Br) : Bool := netSame B P B2 P2 && (Rl.sameD (bk U) (bk U2) && Rl.sameD (bk W) (bk W2))
/-- a thing of another kind -/
def Oth (K : PySem.W.Frag) (C : Addr) (H : Hp) (y : V) : Prop := ∃ t, TyOf K H y t ∧ PySem.W.kitOne K t (.ref C) = some false
def NetY (K : PySem.W.Frag) (C : Addr) (c : Bool) (a : Addr) (y : V) (H : Hp) : Prop :=
  (∃ (B : Br) (Pp : Pi) (n' : Addr) (B2 : Br) (P2 : Pi), NetAt C H a B Pp ∧ y = .ref n' ∧ NetAt C H n' B2 P2 ∧ c = netSame B Pp B2 P2) ∨ (Oth K C H y ∧ c = false)
def StY (K : PySem.W.Frag) (CS C : Addr) (c : Bool) (a : Addr) (y : V) (H : Hp) : Prop :=
  (∃ (B : Br) (Pp : Pi) (U W : Br) (s' : Addr) (B2 : Br) (P2 : Pi) (U2 W2 : Br), StandAt CS C H a B Pp U W ∧ y = .ref s' ∧ StandAt CS C H s' B2 P2 U2 W2 ∧ c = stSame B Pp U W B2 P2 U2 W2) ∨ (Oth K CS H y ∧ c = false)
section
variable {P : Program} {w : World} {K : PySem.W.Frag} {mg : Str → Option Value} {base : Heap}
theorem bk_ints {B : Br} : ∀ p ∈ bk B, ∃ i : Int, p.2 = V.int i := fun p hp => by
  obtain ⟨q, _, rfl⟩ := bk_in hp
  exact ⟨q.2, rfl⟩
theorem pt_ints {B : Pi} : ∀ p ∈ pt B, ∃ i : Int, p.2 = V.int i := fun p hp => by
  obtain ⟨q, _, rfl⟩ := pt_in hp
  exact ⟨q.2, rfl⟩
theorem ok_nEqY {f C : Addr} {fd : FuncData} {k : Nat} (F : Fun K "__eq__" "Net.__eq__" mNet_eq f fd) (T : TxN K mg C) (IC : C8.InsC K C) (mi : mg "isinstance" = none) : FnOk P w K mg base CX0 (k + 1) f fd ["self", "other"] (Rl.spEqY (NetY K C)) := by
  refine F.ok scNEq (fun vs H Q E h => ?_) (fun cdv A outer s H vs Q E hr h => ?_)
  · obtain ⟨a, b, c, rfl, _⟩ := h
    rfl
  · obtain ⟨n, y, c, rfl, h, q⟩ := h
    refine ⟨_, pss_one (ps_ret (pe_and (pe_callB call_isi (by rfl) mi (by decide +kernel) (pa_cons (pv 1) (pa_cons (pe_glob (v := .ref C) rfl T.mgC rfl) pa_nil)))
      (pe_and (pe_cmpR (Rl.op_eqK (Nat.lt_of_le_of_lt (Nat.le_add_right _ 64) hr.units)) (pe_fld (pv 0) rfl) (pe_fld (pv 1) rfl) (nomark _))
      (pe_one (pe_cmpR (Rl.op_eqT (hu_of hr)) (pe_fld (pv 0) rfl) (pe_fld (pv 1) rfl) (nomark _)))))), ?_⟩
    rcases h with ⟨B, Pp, n', B2, P2, N, rfl, N', rfl⟩ | ⟨⟨t, ty, kt⟩, rfl⟩
    · obtain ⟨dx, d1, d2, hn, h1, h2, _⟩ := N.at_
      obtain ⟨dx', d1', d2', hn', h1', h2', _⟩ := N'.at_
      refine ⟨.ref n', rfl, .ref n', .ref C, .ref C, .ref C, true, rfl, .own C, .base (.ins hn' IC.cl IC.ha IC.hn IC.htk IC.hm), IC.me, true, rfl, iteT ?_⟩
      refine ⟨.ref n, rfl, n, C, dx, _, _, rfl, hn, T.cl, T.nB, nf_b d1 d2, .ref n', rfl, n', C, dx', _, _, rfl, hn', T.cl, T.nB, nf_b d1' d2', d1, d1', _, _, rfl, rfl, h1, h1', bk_ints, bk_ints, _, rfl, ?_⟩
      cases e : Rl.sameD (bk B) (bk B2) with
      | false =>
        refine iteF ?_
        have := q H fun _ _ e => e
        unfold netSame at this
        rw [e] at this
        exact this
      | true =>
        refine iteT ?_
        refine ⟨.ref n, rfl, n, C, dx, _, _, rfl, hn, T.cl, T.nW, nf_w d1 d2, .ref n', rfl, n', C, dx', _, _, rfl, hn', T.cl, T.nW, nf_w d1' d2', d2.w, d2'.w, _, _, rfl, rfl, h2, h2', pt_ints, pt_ints, ?_⟩
        have := q H fun _ _ e => e
        unfold netSame at this
        rw [e] at this
        exact this
    · refine ⟨y, rfl, y, .ref C, t, .ref C, false, rfl, .own C, .base ty, kt, false, rfl, iteF ?_⟩
      exact q H fun _ _ e => e
theorem ok_sEqY {f f1 CS C : Addr} {fd fd1 : FuncData} (F : Fun K "__eq__" "Stand.__eq__" mStand_eq f fd) (T : TxN K mg C) (TS : TxS K mg CS) (IC : C8.InsC K C) (ICS : C8.InsC K CS) (nk : Rl.NoKd K C)
    (G1 : FnOk P w K mg base CX0 1 f1 fd1 ["self", "other"] (Rl.spEqY (NetY K C))) (b1 : Binds K fd1 ["self", "other"] []) (m1 : Meth K C "__eq__" f1) (mi : mg "isinstance" = none) : FnOk P w K mg base CX0 2 f fd ["self", "other"] (Rl.spEqY (StY K CS C)) := by
  refine F.ok scSEq (fun vs H Q E h => ?_) (fun cdv A outer s H vs Q E hr h => ?_)
  · obtain ⟨a, b, c, rfl, _⟩ := h
    rfl
  · obtain ⟨a, y, c, rfl, h, q⟩ := h
    have hu0 := Nat.lt_of_le_of_lt (Nat.le_add_right _ 64) hr.units
    refine ⟨_, pss_one (ps_ret (pe_and (pe_callB call_isi (by rfl) mi (by decide +kernel) (pa_cons (pv 1) (pa_cons (pe_glob (v := .ref CS) rfl TS.mgC rfl) pa_nil)))
      (pe_and (pe_cmpR (Rl.op_eqO G1 m1.at_ m1.fn nk b1 pass0 hr) (pe_fld (pv 0) rfl) (pe_fld (pv 1) rfl) (nomark _))
      (pe_and (pe_cmpR (Rl.op_eqK hu0) (pe_fld (pv 0) rfl) (pe_fld (pv 1) rfl) (nomark _))
      (pe_one (pe_cmpR (Rl.op_eqK hu0) (pe_fld (pv 0) rfl) (pe_fld (pv 1) rfl) (nomark _))))))), ?_⟩
    rcases h with ⟨B, Pp, U, W, s', B2, P2, U2, W2, S, rfl, S', rfl⟩ | ⟨⟨t, ty, kt⟩, rfl⟩
    · obtain ⟨dx, n, d1, d2, hs, N, h1, h2⟩ := S.at_
      obtain ⟨dx', n', d1', d2', hs', N', h1', h2'⟩ := S'.at_
      obtain ⟨dxn, e1, e2, hn, _⟩ := id N.at_
      obtain ⟨dxn', e1', e2', hn', _⟩ := id N'.at_
      refine ⟨.ref s', rfl, .ref s', .ref CS, .ref CS, .ref CS, true, rfl, .own CS, .base (.ins hs' ICS.cl ICS.ha ICS.hn ICS.htk ICS.hm), ICS.me, true, rfl, iteT ?_⟩
      refine ⟨.ref a, rfl, a, CS, dx, _, _, rfl, hs, TS.cl, TS.nN, sf_n n d1 d2, .ref s', rfl, s', CS, dx', _, _, rfl, hs', TS.cl, TS.nN, sf_n n' d1' d2', netSame B Pp B2 P2, n, dxn, _, hn, fun H1 x1 => ⟨_, rfl, ?_⟩, .inl ⟨rfl, ⟨.ref C, .ins hn' IC.cl IC.ha IC.hn IC.htk IC.hm, by simp [PySem.W.notFirst]⟩, .inl ⟨B, Pp, n', B2, P2, N, rfl, N', rfl⟩⟩⟩
      have q1 := q H1 x1
      unfold stSame at q1
      cases e : netSame B Pp B2 P2 with
      | false =>
        refine iteF ?_
        rw [e] at q1
        exact q1
      | true =>
        rw [e, Bool.true_and] at q1
        refine iteT ?_
        refine ⟨.ref a, rfl, a, CS, dx, _, _, rfl, x1 _ _ hs, TS.cl, TS.nP, sf_p n d1 d2, .ref s', rfl, s', CS, dx', _, _, rfl, x1 _ _ hs', TS.cl, TS.nP, sf_p n' d1' d2', d1, d1', _, _, rfl, rfl, x1 _ _ h1, x1 _ _ h1', bk_ints, bk_ints, _, rfl, ?_⟩
        cases e2 : Rl.sameD (bk U) (bk U2) with
        | false =>
          refine iteF ?_
          rw [e2] at q1
          exact q1
        | true =>
          rw [e2, Bool.true_and] at q1
          refine iteT ?_
          exact ⟨.ref a, rfl, a, CS, dx, _, _, rfl, x1 _ _ hs, TS.cl, TS.nC, sf_c n d1 d2, .ref s', rfl, s', CS, dx', _, _, rfl, x1 _ _ hs', TS.cl, TS.nC, sf_c n' d1' d2', d2, d2', _, _, rfl, rfl, x1 _ _ h2, x1 _ _ h2', bk_ints, bk_ints, q1⟩
    · refine ⟨y, rfl, y, .ref CS, t, .ref CS, false, rfl, .own CS, .base ty, kt, false, rfl, iteF ?_⟩
      exact q H fun _ _ e => e
end
end Nl
end
section
set_option maxHeartbeats 1000000
namespace Nl
open PySem PySem.Spec PyProof.Rows L2 Nt
/-! ### sums over the ponds -/
theorem sum_add2 {α : Type} (g h : α → Int) : ∀ l : List α, (l.map fun z => g z + h z).sum = (l.map g).sum + (l.map h).sum
  | [] => rfl
  | x :: r => by
    have := sum_add2 g h r
    simp only [List.map_cons, List.sum_cons]
    omega
theorem sum_sub2 {α : Type} (g h : α → Int) : ∀ l : List α, (l.map fun z => g z - h z).sum = (l.map g).sum - (l.map h).sum
  | [] => rfl
  | x :: r => by
    have := sum_sub2 g h r
    simp only [List.map_cons, List.sum_cons]
    omega
theorem sum_zero {α : Type} {g : α → Int} : ∀ {l : List α}, (∀ x ∈ l, g x = 0) → (l.map g).sum = 0
  | [], _ => rfl
  | x :: r, h => by
    rw [List.map_cons, List.sum_cons, h x List.mem_cons_self, sum_zero fun y hy => h y (List.mem_cons_of_mem _ hy)]; rfl
theorem sum_mul {α : Type} (g : α → Int) (c : Int) : ∀ l : List α, (l.map fun z => g z * c).sum = (l.map g).sum * c
  | [] => by simp
  | x :: r => by
    simp only [List.map_cons, List.sum_cons]
    rw [sum_mul g c r, Int.add_mul]
theorem sum_one {x : Str} {c : Int} : ∀ {l : List Str}, l.Nodup → x ∈ l → (l.map fun z => if x = z then c else 0).sum = c
  | [], _, h => (List.not_mem_nil h).elim
  | y :: r, nd, h => by
    obtain ⟨h1, h2⟩ := List.nodup_cons.mp nd
    rw [List.map_cons, List.sum_cons]
    by_cases e : x = y
    · subst e
      rw [if_pos rfl, sum_zero fun z hz => if_neg fun e => h1 (by rw [e]; exact hz)]
      omega
    · rw [if_neg e, sum_one h2 ((List.mem_cons.mp h).resolve_left e)]
      omega
/-- all pairs by one end -/
theorem sum_by {l : List Str} (nd : l.Nodup) (k : (Str × Str) × Int → Str) (f : (Str × Str) × Int → Int) : ∀ {P : Pi}, (∀ p ∈ P, k p ∈ l) → (l.map fun z => ((P.filter fun p => decide (k p = z)).map f).sum).sum = (P.map f).sum
  | [], _ => sum_zero fun _ _ => rfl
  | p :: r, h => by
    have ih := sum_by nd k f (P := r) fun q hq => h q (List.mem_cons_of_mem _ hq)
    have e : (fun z => (((p :: r).filter fun p => decide (k p = z)).map f).sum) = fun z => (if k p = z then f p else 0) + ((r.filter fun p => decide (k p = z)).map f).sum := by
      funext z
      rw [List.filter_cons]
      by_cases c : k p = z
      · rw [if_pos (decide_eq_true c), if_pos c, List.map_cons, List.sum_cons]
      · rw [if_neg (by simpa using c), if_neg c]
        omega
    rw [e, sum_add2, sum_one nd (h p List.mem_cons_self), ih, List.map_cons, List.sum_cons]
theorem val0_cons (p : Str × Int) (r : Br) (z : Str) : val0 (p :: r) z = if p.1 = z then p.2 else val0 r z := by
  unfold val0 getB
  rw [List.find?_cons]
  by_cases e : p.1 = z
  · rw [decide_eq_true e, if_pos e]; rfl
  · rw [decide_eq_false e, if_neg e]
theorem val0_out {Q : Br} {z : Str} (h : z ∉ nms Q) : val0 Q z = 0 := by
  unfold val0
  rw [getB_none h]; rfl
/-- all that a table has, by the ponds -/
theorem sum_tab {l : List Str} (nd : l.Nodup) : ∀ {Q : Br}, (nms Q).Nodup → (∀ p ∈ Q, p.1 ∈ l) → (l.map (val0 Q)).sum = (Q.map (·.2)).sum
  | [], _, _ => sum_zero fun _ _ => rfl
  | p :: r, ndQ, h => by
    obtain ⟨n1, n2⟩ := List.nodup_cons.mp (show (p.1 :: nms r).Nodup from ndQ)
    have e : val0 (p :: r) = fun z => (if p.1 = z then p.2 else 0) + val0 r z := by
      funext z
      rw [val0_cons]
      by_cases c : p.1 = z
      · rw [if_pos c, if_pos c, ← c, val0_out n1]; omega
      · rw [if_neg c, if_neg c]; omega
    rw [e, sum_add2, sum_one nd (h p List.mem_cons_self), sum_tab nd n2 fun q hq => h q (List.mem_cons_of_mem _ hq), List.map_cons, List.sum_cons]
def flowIn (Pp : Pi) (Qc : Br) (z : Str) : Int := ((Pp.filter fun p => decide (p.1.2 = z)).map fun p => p.2 * val0 Qc p.1.1).sum
theorem water_flow (B : Br) (Pp : Pi) (Qp Qc : Br) (z : Str) : waterOf B Pp Qp Qc z = val0 Qp z + flowIn Pp Qc z - val0 B z * val0 Qc z := by
  unfold waterOf flowIn insOf
  rw [List.map_map]; rfl
theorem soak_nms {B : Br} {Pp : Pi} {Qc : Br} (nd : (nms B).Nodup) : soakOf B Pp Qc = ((nms B).map fun z => (val0 B z - outW Pp z) * val0 Qc z).sum := by
  unfold soakOf nms
  rw [List.map_map]
  congr 1
  refine List.map_congr_left fun p hp => ?_
  show _ = (val0 B p.1 - _) * _
  rw [val0_of_mem nd (show (p.1, p.2) ∈ B from hp)]
theorem out_flow (Pp : Pi) (Qc : Br) (z : Str) : outW Pp z * val0 Qc z = ((Pp.filter fun p => decide (p.1.1 = z)).map fun p => p.2 * val0 Qc p.1.1).sum := by
  unfold outW sumOf
  rw [← sum_mul]
  congr 1
  refine List.map_congr_left fun p hp => ?_
  have := of_decide_eq_true (List.mem_filter.mp hp).2
  rw [← this]
/-- nothing is lost -/
theorem all_waters {B : Br} {Pp : Pi} (good : Good B Pp) (Qp Qc : Br) : ((nms B).map (val0 Qp)).sum = ((nms B).map (waterOf B Pp Qp Qc)).sum + soakOf B Pp Qc := by
  have nd := good.wf.nb
  have e1 : waterOf B Pp Qp Qc = fun z => val0 Qp z + flowIn Pp Qc z - val0 B z * val0 Qc z := funext fun z => water_flow B Pp Qp Qc z
  have e2 : (fun z => (val0 B z - outW Pp z) * val0 Qc z) = fun z => val0 B z * val0 Qc z - outW Pp z * val0 Qc z := funext fun z => Int.sub_mul _ _ _
  rw [soak_nms nd, e1, e2, sum_sub2, sum_sub2, sum_add2]
  have f1 : ((nms B).map fun z => flowIn Pp Qc z).sum = (Pp.map fun p => p.2 * val0 Qc p.1.1).sum := sum_by nd (fun p => p.1.2) _ fun p hp => (good.wf.rp p hp).2.1
  have f2 : ((nms B).map fun z => outW Pp z * val0 Qc z).sum = (Pp.map fun p => p.2 * val0 Qc p.1.1).sum := by
    rw [show (fun z => outW Pp z * val0 Qc z) = fun z => ((Pp.filter fun p => decide (p.1.1 = z)).map fun p => p.2 * val0 Qc p.1.1).sum from funext fun z => out_flow Pp Qc z]
    exact sum_by nd (fun p => p.1.1) _ fun p hp => (good.wf.rp p hp).1
  rw [f1, f2]
  omega
/-! ### one pond's spills -/
def wOf (Pp : Pi) (q : Str × Str) : Int := (getP Pp q).getD 0
theorem wOf_cons (p : (Str × Str) × Int) (r : Pi) (q : Str × Str) : wOf (p :: r) q = if p.1 = q then p.2 else wOf r q := by
  unfold wOf getP
  rw [List.find?_cons]
  by_cases e : p.1 = q
  · rw [decide_eq_true e, if_pos e]; rfl
  · rw [decide_eq_false e, if_neg e]
theorem flow_more {z o : Str} {t : Int} : ∀ {P : Pi}, (P.map Prod.fst).Nodup → ((P.filter fun p => decide (p.1.2 = o)).map fun p => p.2 * if p.1.1 = z then t else 0).sum = wOf P (z, o) * t
  | [], _ => by simp [wOf, getP]
  | p :: r, nd => by
    obtain ⟨n1, n2⟩ := List.nodup_cons.mp (show (p.1 :: r.map Prod.fst).Nodup from nd)
    have ih := flow_more (z := z) (o := o) (t := t) n2
    rw [wOf_cons, List.filter_cons]
    by_cases e : p.1 = (z, o)
    · have e1 : p.1.1 = z := by rw [e]
      have e2 : p.1.2 = o := by rw [e]
      have w0 : wOf r (z, o) = 0 := by
        unfold wOf
        rw [getP_none (by rw [← e]; exact n1)]; rfl
      rw [if_pos (decide_eq_true e2), if_pos e, List.map_cons, List.sum_cons, ih, w0, if_pos e1]
      omega
    · rw [if_neg e, ← ih]
      by_cases e2 : p.1.2 = o
      · have e1 : p.1.1 ≠ z := fun h => e (Prod.ext h e2)
        rw [if_pos (decide_eq_true e2), List.map_cons, List.sum_cons, if_neg e1]
        omega
      · rw [if_neg (by simpa using e2)]
theorem water_next {B : Br} {Pp : Pi} {Qp Qc Qc2 : Br} (good : Good B Pp) {z o : Str} {t : Int} (mo : o ∈ nms B) (h : ∀ x ∈ nms B, val0 Qc2 x = val0 Qc x + if x = z then t else 0) :
    waterOf B Pp Qp Qc2 o = waterOf B Pp Qp Qc o + wOf Pp (z, o) * t - val0 B z * t * if z = o then 1 else 0 := by
  rw [water_flow, water_flow, h o mo]
  have e : flowIn Pp Qc2 o = flowIn Pp Qc o + wOf Pp (z, o) * t := by
    unfold flowIn
    rw [← flow_more good.wf.np, ← sum_add2]
    congr 1
    refine List.map_congr_left fun p hp => ?_
    rw [h p.1.1 (good.wf.rp p (List.mem_filter.mp hp).1).1, Int.mul_add]
  rw [e, Int.mul_add]
  by_cases c : o = z
  · rw [if_pos c, if_pos c.symm, c]; omega
  · rw [if_neg c, if_neg (Ne.symm c)]; omega
theorem soak_next {B : Br} {Pp : Pi} {Qc Qc2 : Br} (good : Good B Pp) {z : Str} {t : Int} (mz : z ∈ nms B) (h : ∀ x ∈ nms B, val0 Qc2 x = val0 Qc x + if x = z then t else 0) : soakOf B Pp Qc2 = soakOf B Pp Qc + (val0 B z - outW Pp z) * t := by
  rw [soak_nms good.wf.nb, soak_nms good.wf.nb]
  have e : ((nms B).map fun x => (val0 B x - outW Pp x) * val0 Qc2 x) = (nms B).map fun x => (val0 B x - outW Pp x) * val0 Qc x + if z = x then (val0 B z - outW Pp z) * t else 0 := List.map_congr_left fun x hx => by
    rw [h x hx, Int.mul_add]
    by_cases c : x = z
    · rw [if_pos c, if_pos c.symm, c]
    · rw [if_neg c, if_neg (Ne.symm c)]; omega
  rw [e, sum_add2, sum_one good.wf.nb mz]
theorem lost_next {B : Br} {Pp : Pi} {Qp Qc Qc2 : Br} (good : Good B Pp) {z : Str} {t : Int} (mz : z ∈ nms B) (h : ∀ x ∈ nms B, val0 Qc2 x = val0 Qc x + if x = z then t else 0) :
    ((nms B).map (waterOf B Pp Qp Qc)).sum - ((nms B).map (waterOf B Pp Qp Qc2)).sum = (val0 B z - outW Pp z) * t := by
  have e1 := all_waters good Qp Qc
  have e2 := all_waters good Qp Qc2
  have e3 := soak_next good mz h
  omega
end Nl
end
section
set_option maxHeartbeats 2000000
namespace Nl
open PySem PySem.Spec PyProof.Rows L2 Nt
/-! ### a stand's answers, by the dicts that the law has -/
section
variable {CS C : Addr} {H : Hp} {s : Addr} {B : Br} {Pp : Pi} {Qp Qc : Br} {z : Str} {Q : VK} {E : XK}
theorem StOf.ins (S : StOf CS C H s B Pp Qp Qc) : ∃ dx n d1 d2, H s = some (.ins CS dx (sf n d1 d2)) := by
  obtain ⟨B', P', Qp', Qc', SA, r⟩ := S
  obtain ⟨dx, n, d1, d2, hs, _⟩ := SA.at_
  exact ⟨dx, n, d1, d2, hs⟩
theorem StOf.water (S : StOf CS C H s B Pp Qp Qc) (mz : z ∈ nms B) : ∃ B' P' Qp' Qc', StandAt CS C H s B' P' Qp' Qc' ∧ Good B' P' ∧ Full B' Qp' ∧ Full B' Qc' ∧ z ∈ nms B' ∧ waterOf B' P' Qp' Qc' z = waterOf B Pp Qp Qc z := by
  obtain ⟨B', P', Qp', Qc', SA, g', pB, pP, so, fp, fc, v1, v2, nn⟩ := S
  have pm : (nms B').Perm (nms B) := pB.map Prod.fst
  exact ⟨B', P', Qp', Qc', SA, g', fp, fc, pm.mem_iff.mpr mz, water_same g' pB pP v1 v2 mz⟩
theorem StOf.waters (S : StOf CS C H s B Pp Qp Qc) : ∃ B' P' Qp' Qc', StandAt CS C H s B' P' Qp' Qc' ∧ Good B' P' ∧ Full B' Qp' ∧ Full B' Qc' ∧ (nms B').Perm (nms B) ∧ sortedS (nms B') = true ∧ mapN (nms B') (waterOf B' P' Qp' Qc') = mapN (nms B') (waterOf B Pp Qp Qc) := by
  obtain ⟨B', P', Qp', Qc', SA, g', pB, pP, so, fp, fc, v1, v2, nn⟩ := S
  have pm : (nms B').Perm (nms B) := pB.map Prod.fst
  exact ⟨B', P', Qp', Qc', SA, g', fp, fc, pm, so, List.map_congr_left fun z hz => by rw [water_same g' pB pP v1 v2 (pm.mem_iff.mp hz)]⟩
theorem StOf.counts (S : StOf CS C H s B Pp Qp Qc) : ∃ B' P' Qp' Qc', StandAt CS C H s B' P' Qp' Qc' ∧ (nms Qc').Nodup ∧ Qc'.length ≤ 12 ∧ (nms B').Perm (nms B) ∧ sortedS (nms B') = true ∧ Qc' = mapN (nms B') (val0 Qc) := by
  obtain ⟨B', P', Qp', Qc', SA, g', pB, pP, so, fp, fc, v1, v2, nn⟩ := S
  have pm : (nms B').Perm (nms B) := pB.map Prod.fst
  have nd : (nms Qc').Nodup := by rw [fc.nm]; exact g'.wf.nb
  have ln : Qc'.length ≤ 12 := by
    have : (nms Qc').length = (nms B').length := by rw [fc.nm]
    rw [nms_len, nms_len] at this
    have := g'.wf.lb
    omega
  refine ⟨B', P', Qp', Qc', SA, nd, ln, pm, so, ?_⟩
  rw [← fc.nm]
  unfold mapN nms
  rw [List.map_map]
  conv => lhs; rw [← List.map_id Qc']
  refine List.map_congr_left fun u hu => ?_
  have mu : u.1 ∈ nms B := pm.mem_iff.mp (by rw [← fc.nm]; exact List.mem_map.mpr ⟨u, hu, rfl⟩)
  show u = (u.1, val0 Qc u.1)
  rw [← v2 u.1 mu, val0_of_mem nd (show (u.1, u.2) ∈ Qc' from hu)]
end
/-! ### [E for one in dict] -/
theorem keys_lc {B : Br} {a : Addr} {H : Hp} {σ : L2.St} {te : TE} {ja jv : Nat} {Q : V → Hp → Prop} (val : Str × Int → V) (lb : B.length ≤ 200) (ha : H a = some (.dK (bk B))) (hja : σ[ja]? = some (some (.ref a)))
    (hw : ∀ z : Str, wipe ((wipe σ [jv]).set jv (some (.str z))) [jv] = wipe σ [jv])
    (ht : ∀ (p : Str × Int) (od : Obj) (H2 : Hp) (R : V → Hp → Prop), p ∈ B → Same (upd H a (.frz od (.dK (bk B)))) H2 → (∀ H3, Same H2 H3 → R (val p) H3) → te ((wipe σ [jv]).set jv (some (.str p.1))) H2 R)
    (q : ∀ D H', Same H H' → H D = none → H' D = some (.lst (B.map val)) → Q (.ref D) H') : tLockE (tLc (iKeys (tVar ja)) (gName jv) tYes te [jv]) σ H Q := by
  refine ⟨a, _, ha, trivial, fun od => ?_⟩
  refine ⟨.ref a, hja, a, od, rfl, .inl ⟨_, upd_same, fun D nD => ?_⟩⟩
  have hD0 : D ≠ a := fun e => by subst e; rw [upd_same] at nD; cases nD
  have nDH : H D = none := by rw [upd_ne hD0] at nD; exact nD
  refine lc_it (n := (bk B).length) walk_keys (fun i H1 => H1 D = some (.lst ((B.take i).map val)) ∧ Same (upd H a (.frz od (.dK (bk B)))) H1) ⟨upd_same, same_new nD⟩ (fun i H1 _ h => h.2 a _ upd_same) ?_ ?_
  · rintro i x H1 H2 hi ⟨hD, sm⟩ ⟨rfl, kk, v, hkv, rfl⟩
    obtain ⟨p, hp, rfl, rfl⟩ := bk_at hkv
    have hm : p ∈ B := List.mem_of_getElem? hp
    refine ⟨hw p.1, ht p od H2 _ hm sm fun H3 s3 => ⟨_, s3 D _ hD, ?_, ?_, ?_⟩⟩
    · rw [List.length_map, List.length_take]
      exact small1000 (by omega)
    · rw [upd_same, List.take_add_one, hp, List.map_append]; rfl
    · exact fun b o eb => by
        have nb : b ≠ D := ne_of_none eb nD
        rw [upd_ne nb]; exact s3 b o (sm b o eb)
  · rintro H1 ⟨hD, sm⟩
    obtain ⟨l1, l2⟩ := same_lock ha sm
    refine ⟨l1, q D _ l2 nDH ?_⟩
    rw [upd_ne hD0, hD, bk_len, List.take_length]
/-- what isn't that one is as it was -/
theorem same_off {H H2 : Hp} {a x : Addr} {o u : HO} (sm : Same (upd H a u) H2) (n : x ≠ a) (h : H x = some o) : H2 x = some o := sm x o (by rw [upd_ne n]; exact h)
end Nl
end
section
set_option maxHeartbeats 1000000
namespace Nl
open PySem PySem.Spec PyProof.Rows L2 Nt
section
variable {B : Br} {Pp : Pi} {Qp Qc Qd : Br} {z o : Str} {t i j : Int}
theorem wOf_nonneg (wf : Wf Nm B Pp) (q : Str × Str) : 0 ≤ wOf Pp q := by
  unfold wOf getP
  cases e : Pp.find? fun p => decide (p.1 = q) with
  | none => exact Int.le_refl _
  | some p =>
    have := (wf.rp p (List.mem_of_find?_eq_some e)).2.2.2
    show 0 ≤ p.2
    omega
theorem wOf_self (wf : Wf Nm B Pp) (x : Str) : wOf Pp (x, x) = 0 := by
  unfold wOf
  rw [getP_none fun h => ?_]
  · rfl
  · obtain ⟨p, hp, e⟩ := List.mem_map.mp h
    have := (wf.rp p hp).2.2.1
    rw [show p.1 = (x, x) from e] at this
    exact this rfl
theorem brim_pos (wf : Wf Nm B Pp) (mz : z ∈ nms B) : 1 ≤ val0 B z ∧ val0 B z ≤ 60 := by
  obtain ⟨b, g⟩ := getB_some mz
  have := (wf.rb _ (getB_mem g)).2
  unfold val0
  rw [g]; exact this
/-- counts, told as two ponds' spills more -/
def More2 (B : Br) (Qc Qd : Br) (z o : Str) (i j : Int) : Prop := ∀ x ∈ nms B, val0 Qd x = val0 Qc x + (if x = z then i else 0) + if x = o then j else 0
theorem water_more2 (good : Good B Pp) (zo : z ≠ o) (mz : z ∈ nms B) (h : More2 B Qc Qd z o i j) : waterOf B Pp Qp Qd z = waterOf B Pp Qp Qc z - val0 B z * i + wOf Pp (o, z) * j := by
  have h1 : ∀ x ∈ nms B, val0 (putB Qc z (val0 Qc z + i)) x = val0 Qc x + if x = z then i else 0 := fun x hx => by
    rw [putB_val]
    by_cases e : x = z
    · rw [if_pos e, if_pos e, e]
    · rw [if_neg e, if_neg e]; omega
  have h2 : ∀ x ∈ nms B, val0 Qd x = val0 (putB Qc z (val0 Qc z + i)) x + if x = o then j else 0 := fun x hx => by
    rw [h x hx, h1 x hx]
  rw [water_next good mz h2, water_next good mz h1, wOf_self good.wf, if_pos rfl, if_neg (Ne.symm zo)]
  omega
theorem ediv_add {a b i : Int} (hb : 0 < b) : (a - b * i) / b = a / b - i := by
  rw [show a - b * i = a + b * (-i) by rw [Int.mul_neg]; omega, Int.add_mul_ediv_left _ _ (by omega)]
  omega
/-- a pond that spilled i times can spill at least so many times less -/
theorem most_ge (good : Good B Pp) (zo : z ≠ o) (mz : z ∈ nms B) (i0 : 0 ≤ i) (j0 : 0 ≤ j) (h : More2 B Qc Qd z o i j) (hi : i ≤ mostOf B Pp Qp Qc z) : mostOf B Pp Qp Qc z - i ≤ mostOf B Pp Qp Qd z := by
  obtain ⟨b1, b2⟩ := brim_pos good.wf mz
  have e := water_more2 (Qp := Qp) good zo mz h
  have w0 := Int.mul_nonneg (wOf_nonneg good.wf (o, z)) j0
  have d1 : (waterOf B Pp Qp Qc z - val0 B z * i) / val0 B z ≤ waterOf B Pp Qp Qd z / val0 B z := Int.ediv_le_ediv (by omega) (by omega)
  rw [ediv_add (by omega)] at d1
  unfold mostOf at hi ⊢
  split at hi <;> split <;> split <;> omega
theorem most_self (good : Good B Pp) (mz : z ∈ nms B) (h : ∀ x ∈ nms B, val0 Qd x = val0 Qc x + if x = z then t else 0) (hi : t ≤ mostOf B Pp Qp Qc z) (t0 : 0 ≤ t) : mostOf B Pp Qp Qd z = mostOf B Pp Qp Qc z - t := by
  obtain ⟨b1, b2⟩ := brim_pos good.wf mz
  have e := water_next (Qp := Qp) good mz h
  rw [wOf_self good.wf, if_pos rfl] at e
  have e2 : waterOf B Pp Qp Qd z = waterOf B Pp Qp Qc z - val0 B z * t := by omega
  have d1 : waterOf B Pp Qp Qd z / val0 B z = waterOf B Pp Qp Qc z / val0 B z - t := by rw [e2, ediv_add (by omega)]
  unfold mostOf at hi ⊢
  rw [d1]
  split at hi
  · rename_i c
    rw [if_pos c]
    split <;> omega
  · rename_i c
    rw [if_neg c]
    have : t = 0 := by omega
    subst this
    split <;> omega
theorem water_mono (good : Good B Pp) (zo : o ≠ z) (mo : o ∈ nms B) (t0 : 0 ≤ t) (h : ∀ x ∈ nms B, val0 Qd x = val0 Qc x + if x = z then t else 0) : waterOf B Pp Qp Qc o ≤ waterOf B Pp Qp Qd o := by
  rw [water_next good mo h, if_neg (Ne.symm zo)]
  have := Int.mul_nonneg (wOf_nonneg good.wf (z, o)) t0
  omega
theorem most_mono (good : Good B Pp) (zo : o ≠ z) (mo : o ∈ nms B) (t0 : 0 ≤ t) (h : ∀ x ∈ nms B, val0 Qd x = val0 Qc x + if x = z then t else 0) : mostOf B Pp Qp Qc o ≤ mostOf B Pp Qp Qd o := by
  obtain ⟨b1, b2⟩ := brim_pos good.wf mo
  have d1 : waterOf B Pp Qp Qc o / val0 B o ≤ waterOf B Pp Qp Qd o / val0 B o := Int.ediv_le_ediv (by omega) (water_mono good zo mo t0 h)
  unfold mostOf
  split <;> split <;> omega
/-- what may come into a pond -/
theorem flow_le (good : Good B Pp) (mz : z ∈ nms B) {M : Int} (M0 : 0 ≤ M) (hM : ∀ x ∈ nms B, val0 Qc x ≤ M) : flowIn Pp Qc z ≤ 60 * M := by
  have fit := fun p hp => (good.fit p hp).2
  obtain ⟨b, g⟩ := getB_some mz
  have f1 : inW Pp z ≤ b := fit _ (getB_mem g)
  have r : b ≤ 60 := (good.wf.rb _ (getB_mem g)).2.2
  have step : flowIn Pp Qc z ≤ inW Pp z * M := by
    unfold flowIn inW sumOf
    have rp := good.wf.rp
    clear fit f1 g mz good r
    have : ∀ S : Pi, (∀ p ∈ S, p.1.1 ∈ nms B ∧ 1 ≤ p.2) → ((S.filter fun p => decide (p.1.2 = z)).map fun p => p.2 * val0 Qc p.1.1).sum ≤ ((S.filter fun p => decide (p.1.2 = z)).map (·.2)).sum * M := by
      intro S
      induction S with
      | nil => intro _; simp
      | cons p r ih =>
        intro h
        have ih' := ih fun q hq => h q (List.mem_cons_of_mem _ hq)
        obtain ⟨h1, h2⟩ := h p List.mem_cons_self
        rw [List.filter_cons]
        split
        · rw [List.map_cons, List.map_cons, List.sum_cons, List.sum_cons, Int.add_mul]
          have := Int.mul_le_mul_of_nonneg_left (hM p.1.1 h1) (show 0 ≤ p.2 by omega)
          omega
        · exact ih'
    exact this Pp fun p hp => ⟨(rp p hp).1, (rp p hp).2.2.2.1⟩
  have : inW Pp z ≤ 60 := by omega
  have := Int.mul_le_mul_of_nonneg_right this M0
  omega
theorem most_le (good : Good B Pp) (mz : z ∈ nms B) {M N : Int} (M0 : 0 ≤ M) (hM : ∀ x ∈ nms B, 0 ≤ val0 Qc x ∧ val0 Qc x ≤ M) (hN : val0 Qp z ≤ N) (N0 : 0 ≤ N) : mostOf B Pp Qp Qc z ≤ N + 60 * M := by
  obtain ⟨b1, b2⟩ := brim_pos good.wf mz
  have f := flow_le (Qc := Qc) good mz M0 fun x hx => (hM x hx).2
  have w : waterOf B Pp Qp Qc z ≤ N + 60 * M := by
    rw [water_flow]
    have := Int.mul_nonneg (show 0 ≤ val0 B z by omega) (hM z mz).1
    omega
  unfold mostOf
  split
  · rename_i c
    have : waterOf B Pp Qp Qc z / val0 B z ≤ N + 60 * M := by
      refine Int.le_trans (Int.ediv_le_ediv (by omega) w) ?_
      exact Int.ediv_le_self _ (by omega)
    omega
  · omega
theorem most_pos (wf : Wf Nm B Pp) (mz : z ∈ nms B) (h : val0 B z ≤ waterOf B Pp Qp Qc z) : 1 ≤ mostOf B Pp Qp Qc z := by
  obtain ⟨b1, b2⟩ := brim_pos wf mz
  have : 1 ≤ waterOf B Pp Qp Qc z / val0 B z := by
    have := Int.ediv_le_ediv (show 0 < val0 B z by omega) h
    rw [Int.ediv_self (by omega)] at this
    exact this
  unfold mostOf
  rw [if_pos (by omega)]
  exact this
theorem flow_nonneg (wf : Wf Nm B Pp) (h : ∀ x ∈ nms B, 0 ≤ val0 Qc x) : 0 ≤ flowIn Pp Qc z := by
  unfold flowIn
  have : ∀ S : Pi, (∀ p ∈ S, p.1.1 ∈ nms B ∧ 1 ≤ p.2) → 0 ≤ ((S.filter fun p => decide (p.1.2 = z)).map fun p => p.2 * val0 Qc p.1.1).sum := by
    intro S
    induction S with
    | nil => intro _; simp
    | cons p r ih =>
      intro hs
      have ih' := ih fun q hq => hs q (List.mem_cons_of_mem _ hq)
      obtain ⟨h1, h2⟩ := hs p List.mem_cons_self
      rw [List.filter_cons]
      split
      · rw [List.map_cons, List.sum_cons]
        have := Int.mul_nonneg (show 0 ≤ p.2 by omega) (h p.1.1 h1)
        omega
      · exact ih'
  exact this Pp fun p hp => ⟨(wf.rp p hp).1, (wf.rp p hp).2.2.2.1⟩
end
/-- one pond more, without pipes -/
theorem Good.grow {B : Br} {Pp : Pi} {z : Str} {b : Int} (g : Good B Pp) (lb : B.length < 12) (nz : Nm z) (fz : z ∉ nms B) (b1 : 1 ≤ b) (b2 : b ≤ 60) : Good (B ++ [(z, b)]) Pp := by
  have wf := g.wf
  have o0 : outW Pp z = 0 := by
    unfold outW sumOf
    rw [List.filter_eq_nil_iff.mpr fun p hp => by
      have := (wf.rp p hp).1
      simp only [decide_eq_true_eq]
      exact fun e => fz (by rw [← e]; exact this)]
    rfl
  have i0 : inW Pp z = 0 := by
    unfold inW sumOf
    rw [List.filter_eq_nil_iff.mpr fun p hp => by
      have := (wf.rp p hp).2.1
      simp only [decide_eq_true_eq]
      exact fun e => fz (by rw [← e]; exact this)]
    rfl
  have opn : ∀ x, Opn B Pp x → Opn (B ++ [(z, b)]) Pp x := fun x h => by
    induction h with
    | soak h1 h2 => exact .soak (List.mem_append_left _ h1) h2
    | step h1 _ ih => exact .step h1 ih
  refine ⟨⟨?_, ?_, ?_, wf.np, wf.lp, ?_⟩, ?_, ?_⟩
  · rw [nms_append]
    refine List.nodup_append.mpr ⟨wf.nb, List.nodup_cons.mpr ⟨List.not_mem_nil, .nil⟩, fun u mu t mt => ?_⟩
    have et : t = z := by simpa [nms] using mt
    exact fun e => fz (by rw [← et, ← e]; exact mu)
  · rw [List.length_append]
    show B.length + 1 ≤ 12
    omega
  · intro p hp
    rcases List.mem_append.mp hp with h | h
    · exact wf.rb p h
    · have : p = (z, b) := by simpa using h
      subst this
      exact ⟨nz, b1, b2⟩
  · intro p hp
    obtain ⟨h1, h2, r⟩ := wf.rp p hp
    rw [nms_append]
    exact ⟨List.mem_append_left _ h1, List.mem_append_left _ h2, r⟩
  · intro p hp
    rcases List.mem_append.mp hp with h | h
    · exact g.fit p h
    · have : p = (z, b) := by simpa using h
      subst this
      show outW Pp z ≤ b ∧ inW Pp z ≤ b
      omega
  · intro x hx
    rw [nms_append] at hx
    rcases List.mem_append.mp hx with h | h
    · exact opn x (g.op x h)
    · have : x = z := by simpa [nms] using h
      subst this
      exact .soak (List.mem_append_right _ (List.mem_singleton.mpr rfl)) (by rw [o0]; omega)
end Nl
end
section
set_option maxHeartbeats 1000000
namespace Nl
open PySem PySem.Spec PyProof.Rows L2 Nt
theorem putB_more {B Qd : Br} {z : Str} {t : Int} : ∀ x ∈ nms B, val0 (putB Qd z (val0 Qd z + t)) x = val0 Qd x + if x = z then t else 0 := fun x hx => by
  rw [putB_val]
  by_cases e : x = z
  · rw [if_pos e, if_pos e, e]
  · rw [if_neg e, if_neg e]; omega
section
variable {P : Program} {w : World} {K : PySem.W.Frag} {mg : Str → Option Value} {base : Heap}
/-- dict([(one, N) for one in dict]) -/
theorem pairs_lc {K : PySem.W.Frag} {B : Br} {a : Addr} {H : Hp} {σ : L2.St} {te : TE} {ja jv : Nat} {Q : V → Hp → Prop} (val : Str → Int) (lb : B.length ≤ 12) (ha : H a = some (.dK (bk B))) (hja : σ[ja]? = some (some (.ref a)))
    (hv : ∀ z : Str, ((wipe σ [jv]).set jv (some (.str z)))[jv]? = some (some (V.str z))) (hw : ∀ z : Str, wipe ((wipe σ [jv]).set jv (some (.str z))) [jv] = wipe σ [jv])
    (ht : ∀ (p : Str × Int) (od : Obj) (H2 : Hp) (R : V → Hp → Prop), p ∈ B → Same (upd H a (.frz od (.dK (bk B)))) H2 → (∀ H3, Same H2 H3 → R (.int (val p.1)) H3) → te ((wipe σ [jv]).set jv (some (.str p.1))) H2 R)
    (q : ∀ D as H', Same H H' → H D = none → H' D = some (.lst (as.map V.ref)) → PairsAt H' as (mapN (nms B) val) → Q (.ref D) H') : tLockE (tLc (iKeys (tVar ja)) (gName jv) tYes (tTup (tCons (tVar jv) (tCons te tNil))) [jv]) σ H Q := by
  refine ⟨a, _, ha, trivial, fun od => ?_⟩
  refine ⟨.ref a, hja, a, od, rfl, .inl ⟨_, upd_same, fun D nD => ?_⟩⟩
  have hDa : D ≠ a := fun e => by subst e; rw [upd_same] at nD; cases nD
  have nDH : H D = none := by rw [upd_ne hDa] at nD; exact nD
  refine lc_it (n := (bk B).length) walk_keys (fun i H9 => ∃ as, H9 D = some (.lst (as.map V.ref)) ∧ PairsAt H9 as (mapN (nms (B.take i)) val) ∧ Same (upd H a (.frz od (.dK (bk B)))) H9)
      ⟨[], upd_same, ⟨rfl, fun i p e => by simp [mapN, nms] at e⟩, same_new nD⟩ (fun i H9 _ ⟨_, _, _, h⟩ => h a _ upd_same) ?_ ?_
  · rintro i x H9 H9' hi ⟨as, hD9, hP9, sm⟩ ⟨rfl, kk, v, hkv, rfl⟩
    obtain ⟨p, hp, rfl, rfl⟩ := bk_at hkv
    have lA : as.length ≤ 12 := by
      rw [hP9.1]
      unfold mapN
      rw [List.length_map, nms_len, List.length_take]
      omega
    refine ⟨hw p.1, .str p.1, hv p.1, ht p od H9' _ (List.mem_of_getElem? hp) sm fun H10 s10 => ?_⟩
    refine ⟨line1000 (by show 2 ≤ 1000; decide), fun t nt => ?_⟩
    have hD10 := s10 D _ hD9
    have nDt : D ≠ t := ne_of_none hD10 nt
    refine ⟨_, (by rw [upd_ne nDt]; exact hD10), (by rw [List.length_map]; exact small1000 (by omega)), as ++ [t], ?_, ?_, ?_⟩
    · rw [upd_same, List.map_append]; rfl
    · have e : mapN (nms (B.take (i + 1))) val = mapN (nms (B.take i)) val ++ [(p.1, val p.1)] := by
        rw [List.take_add_one, hp, nms_append]
        unfold mapN
        rw [List.map_append]; rfl
      rw [e]
      refine PairsAt.push (p := (p.1, val p.1)) (hP9.same s10) (fun b xs eb => ?_) (by rw [upd_ne (Ne.symm nDt), upd_same])
      have nb : b ≠ D := fun z => by subst z; rw [hD10] at eb; cases eb
      rw [upd_ne nb, upd_ne (ne_of_none eb nt)]; exact eb
    · exact fun c o ec => by
        have nb : c ≠ D := ne_of_none ec nD
        have e9 := s10 c o (sm c o ec)
        rw [upd_ne nb, upd_ne (ne_of_none e9 nt)]; exact e9
  · rintro H9 ⟨as, hD9, hP9, sm9⟩
    obtain ⟨l1, l2⟩ := same_lock ha sm9
    rw [bk_len, List.take_length] at hP9
    refine ⟨l1, q D as _ l2 nDH (by rw [upd_ne hDa]; exact hD9) ⟨hP9.1, fun i p e => ?_⟩⟩
    obtain ⟨t, e1, e2⟩ := hP9.2 i p e
    refine ⟨t, e1, ?_⟩
    have nt : t ≠ a := fun z => by subst z; rw [l1] at e2; cases e2
    rw [upd_ne nt]; exact e2
/-- two dicts of the same numbers -/
theorem dicts_alike {B : Br} {ys : List Str} {f : Str → Int} (nd : (nms B).Nodup) (pm : ys.Perm (nms B)) : (bk (mapN ys f)).length = (bk (mapN (nms B) f)).length ∧ ∀ p ∈ bk (mapN ys f), valV (bk (mapN (nms B) f)) p.1 = some p.2 ∧ flatB p.2 = true := by
  refine ⟨?_, fun p hp => ?_⟩
  · rw [bk_len, bk_len]
    unfold mapN
    rw [List.length_map, List.length_map, pm.length_eq]
  · obtain ⟨q, hq, e⟩ := List.mem_map.mp hp
    obtain ⟨x, hx, e2⟩ := List.mem_map.mp hq
    subst e
    subst e2
    refine ⟨?_, rfl⟩
    show valV (bk (mapN (nms B) f)) (Sum.inr x : Key) = some (.int (f x))
    rw [valV_bk, show getB (mapN (nms B) f) x = some (f x) from getB_map nd (pm.mem_iff.mp hx)]; rfl
end
end Nl
end
section
set_option maxHeartbeats 4000000
namespace Nl
open PySem PySem.Spec PyProof.Rows L2 Nt
theorem bk_keysL (B : Br) : (bk B).map (·.1) = (nms B).map Sum.inr := by
  unfold bk nms
  rw [List.map_map, List.map_map]; rfl
theorem pt_keysL (P : Pi) : (pt P).map (·.1) = (P.map Prod.fst).map Rl.pk := by
  unfold pt
  rw [List.map_map, List.map_map]; rfl
theorem fill_of {B' : Br} {Qd : Br} {ys : List Str} (h : nms B' = ys) : mapN ys (val0 Qd) = fill B' Qd := by rw [← h]; rfl
def spLAll : Sp := fun vs H Q _ => ∃ (a b : Addr) (B Qd : Br), vs = [.ref a, .ref b] ∧ H a = some (.dK (bk B)) ∧ H b = some (.dK (bk Qd)) ∧ (nms B).Nodup ∧ B.length ≤ 13 ∧
  ∀ (H' : Hp) (r : Addr) (ys : List Str), Same H H' → H r = none → ys.Perm (nms B) → sortedS ys = true → H' r = some (.dK (bk (mapN ys (val0 Qd)))) → Q (.ref r) H'
def spLSortedK : Sp := fun vs H Q _ => ∃ (a : Addr) (B : Br), vs = [.ref a] ∧ H a = some (.dK (bk B)) ∧ (nms B).Nodup ∧ B.length ≤ 13 ∧
  ∀ (H' : Hp) (r : Addr) (ys : List Str), Same H H' → H r = none → ys.Perm (nms B) → sortedS ys = true → H' r = some (.dK (bk (mapN ys (val0 B)))) → Q (.ref r) H'
def valP0 (P : Pi) (q : Str × Str) : Int := (getP P q).getD 0
def mapP (l : List (Str × Str)) (f : Str × Str → Int) : Pi := l.map fun q => (q, f q)
def spLSortedT : Sp := fun vs H Q _ => ∃ (a : Addr) (P : Pi), vs = [.ref a] ∧ H a = some (.dT (pt P)) ∧ (P.map Prod.fst).Nodup ∧ P.length ≤ 200 ∧
  ∀ (H' : Hp) (r : Addr) (qs : List (Str × Str)), Same H H' → H r = none → qs.Perm (P.map Prod.fst) → qs.Pairwise (fun x y => Rl.ltP y x = false) → H' r = some (.dT (pt (mapP qs (valP0 P)))) → Q (.ref r) H'
theorem mergeT_pt : ∀ (M P : Pi), ((P ++ M).map Prod.fst).Nodup → Rl.mergeT (pt P) (pt M) = pt (P ++ M)
  | [], P, _ => by rw [List.append_nil]; rfl
  | p :: M, P, nd => by
    have h1 : p.1 ∉ P.map Prod.fst := fun m => by
      rw [List.map_append, List.nodup_append] at nd
      exact nd.2.2 p.1 m p.1 (by rw [List.map_cons]; exact List.mem_cons_self) rfl
    have h2 : Rl.mergeT (pt P) (pt (p :: M)) = Rl.mergeT (pt (P ++ [p])) (pt M) := by
      show Rl.mergeT (putK (pt P) (Rl.pk p.1) (.int p.2)) (pt M) = _
      rw [putK_pt h1]
    have e : (P ++ [p]) ++ M = P ++ (p :: M) := by rw [List.append_assoc]; rfl
    rw [h2, mergeT_pt M (P ++ [p]) (by rw [e]; exact nd), e]
/-- pairs ((x, y), number), each in its tuple -/
def TrisAt (H : Hp) (as : List Addr) (l : Pi) : Prop := as.length = l.length ∧ ∀ (i : Nat) (p : (Str × Str) × Int), l[i]? = some p → ∃ t q, as[i]? = some t ∧ H t = some (.tup [.ref q, .int p.2]) ∧ H q = some (.tup [.str p.1.1, .str p.1.2])
theorem TrisAt.same {H H' : Hp} {as : List Addr} {l : Pi} (h : TrisAt H as l) (s : ∀ b xs, H b = some (.tup xs) → H' b = some (.tup xs)) : TrisAt H' as l := ⟨h.1, fun i p e => by
  obtain ⟨t, q, e1, e2, e3⟩ := h.2 i p e
  exact ⟨t, q, e1, s _ _ e2, s _ _ e3⟩⟩
theorem TrisAt.push {H : Hp} {as : List Addr} {l : Pi} (h : TrisAt H as l) {t q : Addr} {p : (Str × Str) × Int} (ht : H t = some (.tup [.ref q, .int p.2])) (hq : H q = some (.tup [.str p.1.1, .str p.1.2])) : TrisAt H (as ++ [t]) (l ++ [p]) := by
  refine ⟨by rw [List.length_append, List.length_append, h.1]; rfl, fun i p' e => ?_⟩
  rcases Nat.lt_or_ge i l.length with c | c
  · rw [List.getElem?_append_left c] at e
    obtain ⟨t', q', e1, e2, e3⟩ := h.2 i p' e
    exact ⟨t', q', by rw [List.getElem?_append_left (by rw [h.1]; exact c)]; exact e1, e2, e3⟩
  · rw [List.getElem?_append_right c] at e
    have : i - l.length = 0 := by
      cases hz : i - l.length with
      | zero => rfl
      | succ n => rw [hz] at e; simp at e
    rw [this] at e
    have e' : p = p' := by simpa using e
    subst e'
    refine ⟨t, q, ?_, ht, hq⟩
    rw [List.getElem?_append_right (by rw [h.1]; exact c), h.1, this]; rfl
theorem pairedT_of {K : PySem.W.Frag} {H : Hp} : ∀ {as : List Addr} {l : Pi}, TrisAt H as l → Paired (fun p (kv : List Key × V) => ∃ q, SqT K H p [.ref q, kv.2] ∧ H q = some (.tup (kv.1.map kV))) as (pt l)
  | [], [], _ => .nil
  | [], x :: l, h => absurd h.1 (by simp)
  | a :: as, [], h => absurd h.1 (by simp)
  | a :: as, x :: l, h => by
    obtain ⟨t, q, e1, e2, e3⟩ := h.2 0 x rfl
    have e1' : a = t := by simpa using e1
    subst e1'
    refine .cons ⟨q, SqT.of e2, e3⟩ (pairedT_of ⟨by simpa using h.1, fun i p e => ?_⟩)
    obtain ⟨t', q', f1, f2, f3⟩ := h.2 (i + 1) p (by simpa using e)
    exact ⟨t', q', by simpa using f1, f2, f3⟩
section
variable {P : Program} {w : World} {K : PySem.W.Frag} {mg : Str → Option Value} {base : Heap}
theorem scLAll : FnScope ["_law_wide", "_law_given", "_law_one"] ["_law_wide", "_law_given"] (defScope s_law_all) := ⟨rfl, rfl, rfl, by decide +kernel, rfl, by decide +kernel, by decide +kernel⟩
theorem ok_lall {f  C CS : Addr} {fd  : FuncData} (F : Fun K "_law_all" "_law_all" s_law_all f fd) (T : TxN K mg C) (TS : TxS K mg CS) (x_dict : mg "dict" = none)
    (x_sorted : mg "sorted" = none) : FnOk P w K mg base CX0 1 f fd ["_law_wide", "_law_given"] spLAll := by
  refine F.ok scLAll (fun vs H Q E h => ?_) (fun cdv A outer s H vs Q E hr h => ?_)
  · obtain ⟨a, b, B, Qd, rfl, _⟩ := h
    rfl
  · obtain ⟨a, b, B, Qd, rfl, hA, hB, ndB, lB, q⟩ := h
    have hu := hu_of hr
    refine ⟨_, (pss_one (ps_ret (pe_callTy (call_dictP rfl) (by rfl) x_dict (by decide +kernel) (pa_cons (pe_lc (own := [("_law_one", 2)]) (g := gName 2) (tt := tYes) (te := (tTup (tCons (tVar 2) (tCons (tDGet2 (tVar 1) (tVar 2) (tC (.int 0))) tNil)))) rfl scLAll.nd (pi_list (pe_callB (call_sortedD rfl) (by rfl) x_sorted (by decide +kernel) (pa_cons (pv 0) pa_nil))) (blkOk_by (N := ["_law_wide", "_law_given", "_law_one"]) (sc := defScope s_law_all) (by decide +kernel)) (fun _ _ _ _ _ => (pg_name (i := 2) scLAll.nd rfl (Or.inl rfl))) (fun _ _ _ _ _ => pts_nil) (fun _ _ _ _ _ => pe_tup (pa_cons (pv 2) (pa_cons (pe_dget2 hu (pv 1) (pv 2) pe_int ⟨rfl, rfl, rfl, rfl⟩) pa_nil)))) pa_nil)))), ?_⟩
    refine ⟨.ref a, rfl, a, bk B, nms B, rfl, .inl hA, bk_keysL B, by rw [nms_len]; omega, fun ys e pm so ne => ?_⟩
    obtain ⟨H1, eH1, s1, he⟩ : ∃ X, X = upd H e (.lst (ys.map V.str)) ∧ Same H X ∧ X e = some (.lst (ys.map V.str)) := ⟨_, rfl, same_new ne, upd_same⟩
    rw [← eH1]
    clear eH1 ne
    have lY : ys.length ≤ 13 := by rw [pm.length_eq, nms_len]; exact lB
    refine ⟨e, rfl, ⟨_, SqL.of he⟩, fun D nD => ?_⟩
    have De : e ≠ D := fun z => by rw [← z, he] at nD; cases nD
    refine lc_it (n := (ys.map V.str).length) (walk_list (K := K) (a := e) (xs := ys.map V.str)) (fun i H7 => ∃ as, H7 D = some (.lst (as.map V.ref)) ∧ PairsAt H7 as (mapN (ys.take i) (val0 Qd)) ∧ Same H1 H7)
      ⟨[], upd_same, ⟨rfl, fun i p e => by simp [mapN] at e⟩, same_new nD⟩ (fun i H7 _ ⟨_, _, _, h⟩ => SqL.of (h e _ he)) ?_ ?_
    · rintro i x H7 H7' hi ⟨as, hD7, hP7, s7⟩ ⟨rfl, hx⟩
      rw [List.getElem?_map] at hx
      obtain ⟨z, hz, rfl⟩ := Option.map_eq_some_iff.mp hx
      have lA : as.length ≤ 13 := by
        rw [hP7.1]
        unfold mapN
        rw [List.length_map, List.length_take]
        omega
      have hb := s7 b _ (s1 b _ hB)
      refine ⟨rfl, .str z, rfl, .ref b, rfl, b, rfl, .inl ⟨_, .inl hb⟩, .str z, rfl, _, .inl ⟨_, Sum.inr z, .inl hb, rfl, rfl⟩, ?_⟩
      rw [valV_bk, getD_val]
      refine ⟨line1000 (by show 2 ≤ 1000; decide), fun t nt => ?_⟩
      have nDt : D ≠ t := ne_of_none hD7 nt
      refine ⟨_, (by rw [upd_ne nDt]; exact hD7), (by rw [List.length_map]; exact small1000 (by omega)), as ++ [t], ?_, ?_, ?_⟩
      · rw [upd_same, List.map_append]; rfl
      · rw [mapN_take ys (val0 Qd) i hz]
        refine PairsAt.push (p := (z, val0 Qd z)) hP7 (fun b' xs eb => ?_) (by rw [upd_ne (Ne.symm nDt), upd_same])
        have nb : b' ≠ D := fun z => by subst z; rw [hD7] at eb; cases eb
        rw [upd_ne nb, upd_ne (ne_of_none eb nt)]; exact eb
      · exact fun c o ec => by
          have nb : c ≠ D := ne_of_none ec nD
          have e9 := s7 c o ec
          rw [upd_ne nb, upd_ne (ne_of_none e9 nt)]; exact e9
    rintro H7 ⟨as, hD7, hP7, s7⟩
    rw [List.length_map, List.take_length] at hP7
    refine ⟨D, as, bk (mapN ys (val0 Qd)), rfl, SqL.of hD7, paired_of hP7, fun m nm => ?_⟩
    have ndN : (nms (mapN ys (val0 Qd))).Nodup := by unfold mapN; rw [nms_map]; exact pm.nodup_iff.mpr ndB
    have em : mergeK [] (bk (mapN ys (val0 Qd))) = bk (mapN ys (val0 Qd)) := merge_bk _ [] ndN
    rw [em]
    have s17 := s1.trans s7
    exact q _ m ys (s17.trans (same_new nm)) (s17.free nm) pm so upd_same
theorem scLSorted : FnScope ["_law_table", "_law_key"] ["_law_table"] (defScope s_law_sorted) := ⟨rfl, rfl, rfl, by decide +kernel, rfl, by decide +kernel, by decide +kernel⟩
theorem ok_lsortedK {f  C CS : Addr} {fd  : FuncData} (F : Fun K "_law_sorted" "_law_sorted" s_law_sorted f fd) (T : TxN K mg C) (TS : TxS K mg CS) (x_dict : mg "dict" = none)
    (x_sorted : mg "sorted" = none) : FnOk P w K mg base CX0 1 f fd ["_law_table"] spLSortedK := by
  refine F.ok scLSorted (fun vs H Q E h => ?_) (fun cdv A outer s H vs Q E hr h => ?_)
  · obtain ⟨a, B, rfl, _⟩ := h
    rfl
  · obtain ⟨a, B, rfl, hA, ndB, lB, q⟩ := h
    have hu := hu_of hr
    refine ⟨_, (pss_one (ps_ret (pe_callTy (call_dictP rfl) (by rfl) x_dict (by decide +kernel) (pa_cons (pe_lc (own := [("_law_key", 1)]) (g := gName 1) (tt := tYes) (te := (tTup (tCons (tVar 1) (tCons (tDGet (tVar 0) (tVar 1)) tNil)))) rfl scLSorted.nd (pi_list (pe_callB (call_sortedD rfl) (by rfl) x_sorted (by decide +kernel) (pa_cons (pv 0) pa_nil))) (blkOk_by (N := ["_law_table", "_law_key"]) (sc := defScope s_law_sorted) (by decide +kernel)) (fun _ _ _ _ _ => (pg_name (i := 1) scLSorted.nd rfl (Or.inl rfl))) (fun _ _ _ _ _ => pts_nil) (fun _ _ _ _ _ => pe_tup (pa_cons (pv 1) (pa_cons (pe_dget hu (pv 0) (pv 1) (fun _ _ => rfl)) pa_nil)))) pa_nil)))), ?_⟩
    refine ⟨.ref a, rfl, a, bk B, nms B, rfl, .inl hA, bk_keysL B, by rw [nms_len]; omega, fun ys e pm so ne => ?_⟩
    obtain ⟨H1, eH1, s1, he⟩ : ∃ X, X = upd H e (.lst (ys.map V.str)) ∧ Same H X ∧ X e = some (.lst (ys.map V.str)) := ⟨_, rfl, same_new ne, upd_same⟩
    rw [← eH1]
    clear eH1 ne
    have lY : ys.length ≤ 13 := by rw [pm.length_eq, nms_len]; exact lB
    refine ⟨e, rfl, ⟨_, SqL.of he⟩, fun D nD => ?_⟩
    have De : e ≠ D := fun z => by rw [← z, he] at nD; cases nD
    refine lc_it (n := (ys.map V.str).length) (walk_list (K := K) (a := e) (xs := ys.map V.str)) (fun i H7 => ∃ as, H7 D = some (.lst (as.map V.ref)) ∧ PairsAt H7 as (mapN (ys.take i) (val0 B)) ∧ Same H1 H7)
      ⟨[], upd_same, ⟨rfl, fun i p e => by simp [mapN] at e⟩, same_new nD⟩ (fun i H7 _ ⟨_, _, _, h⟩ => SqL.of (h e _ he)) ?_ ?_
    · rintro i x H7 H7' hi ⟨as, hD7, hP7, s7⟩ ⟨rfl, hx⟩
      rw [List.getElem?_map] at hx
      obtain ⟨z, hz, rfl⟩ := Option.map_eq_some_iff.mp hx
      have lA : as.length ≤ 13 := by
        rw [hP7.1]
        unfold mapN
        rw [List.length_map, List.length_take]
        omega
      have hb := s7 a _ (s1 a _ hA)
      have mz : z ∈ nms B := pm.mem_iff.mp (List.mem_of_getElem? hz)
      obtain ⟨vz, ez⟩ := getB_some mz
      have hval : val0 B z = vz := by unfold val0; rw [ez]; rfl
      refine ⟨rfl, .str z, rfl, .ref a, rfl, .str z, rfl, a, .int (val0 B z), rfl, .inl ⟨_, Sum.inr z, .inl hb, rfl, by rw [valV_bk, ez, hval]; rfl⟩, line1000 (by show 2 ≤ 1000; decide), fun t nt => ?_⟩
      have nDt : D ≠ t := ne_of_none hD7 nt
      refine ⟨_, (by rw [upd_ne nDt]; exact hD7), (by rw [List.length_map]; exact small1000 (by omega)), as ++ [t], ?_, ?_, ?_⟩
      · rw [upd_same, List.map_append]; rfl
      · rw [mapN_take ys (val0 B) i hz]
        refine PairsAt.push (p := (z, val0 B z)) hP7 (fun b' xs eb => ?_) (by rw [upd_ne (Ne.symm nDt), upd_same])
        have nb : b' ≠ D := fun z => by subst z; rw [hD7] at eb; cases eb
        rw [upd_ne nb, upd_ne (ne_of_none eb nt)]; exact eb
      · exact fun c o ec => by
          have nb : c ≠ D := ne_of_none ec nD
          have e9 := s7 c o ec
          rw [upd_ne nb, upd_ne (ne_of_none e9 nt)]; exact e9
    rintro H7 ⟨as, hD7, hP7, s7⟩
    rw [List.length_map, List.take_length] at hP7
    refine ⟨D, as, bk (mapN ys (val0 B)), rfl, SqL.of hD7, paired_of hP7, fun m nm => ?_⟩
    have ndN : (nms (mapN ys (val0 B))).Nodup := by unfold mapN; rw [nms_map]; exact pm.nodup_iff.mpr ndB
    have em : mergeK [] (bk (mapN ys (val0 B))) = bk (mapN ys (val0 B)) := merge_bk _ [] ndN
    rw [em]
    have s17 := s1.trans s7
    exact q _ m ys (s17.trans (same_new nm)) (s17.free nm) pm so upd_same
theorem ok_lsortedT {f  C CS : Addr} {fd  : FuncData} (F : Fun K "_law_sorted" "_law_sorted" s_law_sorted f fd) (T : TxN K mg C) (TS : TxS K mg CS) (x_dict : mg "dict" = none)
    (x_sorted : mg "sorted" = none) : FnOk P w K mg base CX0 1 f fd ["_law_table"] spLSortedT := by
  refine F.ok scLSorted (fun vs H Q E h => ?_) (fun cdv A outer s H vs Q E hr h => ?_)
  · obtain ⟨a, P, rfl, _⟩ := h
    rfl
  · obtain ⟨a, Pp, rfl, hA, ndP, lP, q⟩ := h
    have hu := hu_of hr
    refine ⟨_, (pss_one (ps_ret (pe_callTy (Rl.call_dictTP rfl (Nat.lt_of_le_of_lt (Nat.add_le_add_left (by decide) _) hr.units)) (by rfl) x_dict (by decide +kernel) (pa_cons (pe_lc (own := [("_law_key", 1)]) (g := gName 1) (tt := tYes) (te := (tTup (tCons (tVar 1) (tCons (tDGet (tVar 0) (tVar 1)) tNil)))) rfl scLSorted.nd (pi_list (pe_callB (Rl.call_sortD rfl) (by rfl) x_sorted (by decide +kernel) (pa_cons (pv 0) pa_nil))) (blkOk_by (N := ["_law_table", "_law_key"]) (sc := defScope s_law_sorted) (by decide +kernel)) (fun _ _ _ _ _ => (pg_name (i := 1) scLSorted.nd rfl (Or.inl rfl))) (fun _ _ _ _ _ => pts_nil) (fun _ _ _ _ _ => pe_tup (pa_cons (pv 1) (pa_cons (pe_dget hu (pv 0) (pv 1) (fun _ _ => rfl)) pa_nil)))) pa_nil)))), ?_⟩
    refine ⟨.ref a, rfl, a, pt Pp, Pp.map Prod.fst, rfl, .inl hA, pt_keysL Pp, by rw [List.length_map]; omega, fun qs e pm so hq ne => ?_⟩
    obtain ⟨H1, eH1, s1, he⟩ : ∃ X, X = upd H e (.lst (qs.map fun q => V.ref q.1)) ∧ Same H X ∧ X e = some (.lst (qs.map fun q => V.ref q.1)) := ⟨_, rfl, same_new ne, upd_same⟩
    rw [← eH1]
    clear eH1 ne
    have hq1 : ∀ u ∈ qs, H1 u.1 = some (.tup [.str u.2.1, .str u.2.2]) := fun u hu' => s1 _ _ (hq u hu')
    have lQ : qs.length ≤ 200 := by have := pm.length_eq; rw [List.length_map, List.length_map] at this; omega
    refine ⟨e, rfl, ⟨_, SqL.of he⟩, fun D nD => ?_⟩
    have De : e ≠ D := fun z => by rw [← z, he] at nD; cases nD
    refine lc_it (n := (qs.map fun q => V.ref q.1).length) (walk_list (K := K) (a := e) (xs := qs.map fun q => V.ref q.1)) (fun i H7 => ∃ as, H7 D = some (.lst (as.map V.ref)) ∧ TrisAt H7 as (mapP ((qs.take i).map (·.2)) (valP0 Pp)) ∧ Same H1 H7)
      ⟨[], upd_same, ⟨rfl, fun i p e => by simp [mapP] at e⟩, same_new nD⟩ (fun i H7 _ ⟨_, _, _, h⟩ => SqL.of (h e _ he)) ?_ ?_
    · rintro i x H7 H7' hi ⟨as, hD7, hP7, s7⟩ ⟨rfl, hx⟩
      rw [List.getElem?_map] at hx
      obtain ⟨u, hz, rfl⟩ := Option.map_eq_some_iff.mp hx
      have mu := List.mem_of_getElem? hz
      have lA : as.length ≤ 200 := by
        rw [hP7.1]
        unfold mapP
        rw [List.length_map, List.length_map, List.length_take]
        omega
      have hb := s7 a _ (s1 a _ hA)
      have hu7 := s7 _ _ (hq1 u mu)
      have mz : u.2 ∈ Pp.map Prod.fst := pm.mem_iff.mp (List.mem_map.mpr ⟨u, mu, rfl⟩)
      obtain ⟨pz, hpz, epz⟩ := List.mem_map.mp mz
      have ez : getP Pp u.2 = some pz.2 := getP_of_mem ndP (by rw [← epz]; exact hpz)
      have hval : valP0 Pp u.2 = pz.2 := by unfold valP0; rw [ez]; rfl
      refine ⟨rfl, .ref u.1, rfl, .ref a, rfl, .ref u.1, rfl, a, .int (valP0 Pp u.2), rfl, .inr ⟨_, Rl.pk u.2, u.1, .inl hb, rfl, hu7, by rw [valV_pt, ez, hval]; rfl⟩, line1000 (by show 2 ≤ 1000; decide), fun t nt => ?_⟩
      have nDt : D ≠ t := ne_of_none hD7 nt
      have nuD : u.1 ≠ D := fun z => by rw [z, hD7] at hu7; cases hu7
      have nut : u.1 ≠ t := fun z => by rw [z, nt] at hu7; cases hu7
      refine ⟨_, (by rw [upd_ne nDt]; exact hD7), (by rw [List.length_map]; exact small1000 (by omega)), as ++ [t], ?_, ?_, ?_⟩
      · rw [upd_same, List.map_append]; rfl
      · have e : mapP ((qs.take (i + 1)).map (·.2)) (valP0 Pp) = mapP ((qs.take i).map (·.2)) (valP0 Pp) ++ [(u.2, valP0 Pp u.2)] := by
          rw [List.take_add_one, hz, List.map_append]
          unfold mapP
          rw [List.map_append]; rfl
        rw [e]
        refine TrisAt.push (p := (u.2, valP0 Pp u.2)) (hP7.same fun b' xs eb => ?_) (q := u.1) (by rw [upd_ne (Ne.symm nDt), upd_same]) (by rw [upd_ne nuD, upd_ne nut]; exact hu7)
        have nb : b' ≠ D := fun z => by subst z; rw [hD7] at eb; cases eb
        rw [upd_ne nb, upd_ne (ne_of_none eb nt)]; exact eb
      · exact fun c o ec => by
          have nb : c ≠ D := ne_of_none ec nD
          have e9 := s7 c o ec
          rw [upd_ne nb, upd_ne (ne_of_none e9 nt)]; exact e9
    rintro H7 ⟨as, hD7, hP7, s7⟩
    rw [List.length_map, List.take_length] at hP7
    have nd2 : (qs.map (·.2)).Nodup := pm.nodup_iff.mpr ndP
    have ek : (mapP (qs.map (·.2)) (valP0 Pp)).map Prod.fst = qs.map (·.2) := by unfold mapP; rw [List.map_map]; exact List.map_id' _
    refine ⟨D, as, pt (mapP (qs.map (·.2)) (valP0 Pp)), rfl, SqL.of hD7, pairedT_of hP7, fun m nm => ?_⟩
    have em : Rl.mergeT [] (pt (mapP (qs.map (·.2)) (valP0 Pp))) = pt (mapP (qs.map (·.2)) (valP0 Pp)) := mergeT_pt _ [] (by rw [List.nil_append, ek]; exact nd2)
    rw [em]
    have s17 := s1.trans s7
    exact q _ m (qs.map (·.2)) (s17.trans (same_new nm)) (s17.free nm) pm so upd_same
end
end Nl
end
section
set_option maxHeartbeats 4000000
namespace Nl
open PySem PySem.Spec PyProof.Rows L2 Nt
theorem rowS_eq {x : Str × Int} (h : 0 ≤ x.2) : rowS x = (PyData.shown (.str x.1) ++ (": " : Str)) ++ PyData.shown (.int x.2) := by
  unfold rowS
  rw [fig_str h, Str.empty_append]
  simp [PyData.shown]
theorem shownKv_rows : ∀ {B : Br}, (∀ x ∈ B, 0 ≤ x.2) → PyData.shownKv (B.map fun x => (PyData.str x.1, PyData.int x.2)) = B.map rowS
  | [], _ => by simp [PyData.shownKv]
  | x :: B, h => by
    rw [List.map_cons, List.map_cons, rowS_eq (h x List.mem_cons_self), ← shownKv_rows fun y hy => h y (List.mem_cons_of_mem _ hy)]
    simp [PyData.shownKv]
theorem shown_dN {B : Br} (h : ∀ x ∈ B, 0 ≤ x.2) : (Rl.dN B).shown = shownOf B := by
  have e : (Rl.dN B).shown = dictText (PyData.shownKv (B.map fun x => (PyData.str x.1, PyData.int x.2))) := by simp [Rl.dN, PyData.shown]
  rw [e, shownKv_rows h]
  unfold dictText shownOf
  rw [show Txt.join (", " : Str) (B.map rowS) = Str.join ", " (B.map rowS) from TL.join_eq _ _]
theorem PT_log {n : Int} (h0 : 0 ≤ n) (h1 : n < PT) : n.natAbs.log2 < 1920 := by
  by_cases z : n.natAbs = 0
  · rw [z]; decide
  · rw [Nat.log2_lt z]
    have e : ((10 ^ 64 : Nat) : Int) = PT := by rw [PT_eq]; rfl
    have : n.natAbs < 10 ^ 64 := by omega
    exact Nat.lt_of_lt_of_le this (by decide +kernel)
theorem PT_1 : PT ≤ PT ^ 20 := by rw [PT_eq]; decide +kernel
theorem dN_far {B : Br} (fg : Fig B) (h : ∀ x ∈ B, x.2 < PT) : (Rl.dN B).showable = true ∧ (Rl.dN B).depth ≤ 60 ∧ (Rl.dN B).shown.length ≤ sizeLine := by
  have key : ∀ {L : Br}, (∀ x ∈ L, 0 ≤ x.2 ∧ x.2 < PT) → PyData.showableKv (L.map fun x => (PyData.str x.1, PyData.int x.2)) = true ∧ PyData.depthKv (L.map fun x => (PyData.str x.1, PyData.int x.2)) = 0 := fun {L} => by
    induction L with
    | nil => exact fun _ => ⟨rfl, rfl⟩
    | cons x L ih =>
      intro hL
      obtain ⟨i1, i2⟩ := ih fun y hy => hL y (List.mem_cons_of_mem _ hy)
      obtain ⟨x0, x1⟩ := hL x List.mem_cons_self
      constructor
      · show (true && decide (x.2.natAbs.log2 < 1920) && PyData.showableKv (L.map fun x => (PyData.str x.1, PyData.int x.2))) = true
        rw [i1, decide_eq_true (PT_log x0 x1)]; rfl
      · show max (max 0 0) (PyData.depthKv (L.map fun x => (PyData.str x.1, PyData.int x.2))) = 0
        rw [i2]; rfl
  obtain ⟨k1, k2⟩ := key fun x hx => ⟨(fg.el x hx).2.1, h x hx⟩
  refine ⟨k1, ?_, ?_⟩
  · show PyData.depthKv (B.map fun x => (PyData.str x.1, PyData.int x.2)) + 1 ≤ 60
    rw [k2]; decide
  · rw [shown_dN fun x hx => (fg.el x hx).2.1]
    have := shownOf_len fg
    rw [sizeLine_eq]; omega
def SrtP (P : Pi) : Prop := (P.map Prod.fst).Pairwise (fun x y => Rl.ltP y x = false)
theorem ltP_total {x y : Str × Str} (h1 : Rl.ltP x y = false) (h2 : Rl.ltP y x = false) : x = y := by
  have e := PyProof.Rows.lex_total (O := PyProof.Rows.itemOrd) _ _ h1 h2
  unfold Rl.kx at e
  injection e with e1 e2
  injection e2 with e2 _
  injection e1 with e1
  injection e2 with e2
  obtain ⟨a, b⟩ := x
  obtain ⟨c, d⟩ := y
  have h1 : a = c := by
    cases a with
    | mk a => cases c with
      | mk c =>
        have : a = c := Array.toList_inj.mp e1
        rw [this]
  have h2 : b = d := by
    cases b with
    | mk b => cases d with
      | mk d =>
        have : b = d := Array.toList_inj.mp e2
        rw [this]
  rw [h1, h2]
theorem pairs_uniq : ∀ {l m : List (Str × Str)}, l.Perm m → l.Pairwise (fun x y => Rl.ltP y x = false) → m.Pairwise (fun x y => Rl.ltP y x = false) → l = m
  | [], m, pm, _, _ => (List.nil_perm.mp pm).symm
  | x :: r, [], pm, _, _ => absurd pm.length_eq (by simp)
  | x :: r, y :: t, pm, hl, hm => by
    have e : x = y := by
      have h1 : x ∈ y :: t := pm.mem_iff.mp List.mem_cons_self
      have h2 : y ∈ x :: r := pm.mem_iff.mpr List.mem_cons_self
      rcases List.mem_cons.mp h1 with e | h1
      · exact e
      · rcases List.mem_cons.mp h2 with e | h2
        · exact e.symm
        · exact ltP_total ((List.pairwise_cons.mp hm).1 x h1) ((List.pairwise_cons.mp hl).1 y h2)
    subst e
    rw [pairs_uniq pm.cons_inv (List.pairwise_cons.mp hl).2 (List.pairwise_cons.mp hm).2]
theorem mapN_self {B : Br} (nd : (nms B).Nodup) : mapN (nms B) (val0 B) = B := by
  unfold mapN nms
  rw [List.map_map]
  refine (List.map_congr_left fun p hp => ?_).trans (List.map_id' B)
  show (p.1, val0 B p.1) = p
  unfold val0
  rw [getB_of_mem nd (show (p.1, p.2) ∈ B from hp)]; rfl
theorem mapP_self {P : Pi} (nd : (P.map Prod.fst).Nodup) : mapP (P.map Prod.fst) (valP0 P) = P := by
  unfold mapP
  rw [List.map_map]
  refine (List.map_congr_left fun p hp => ?_).trans (List.map_id' P)
  show (p.1, valP0 P p.1) = p
  unfold valP0
  rw [getP_of_mem nd (show (p.1, p.2) ∈ P from hp)]; rfl
/-- the pipes, the ponds told in order are one list -/
theorem sort_B {B B' : Br} {ys : List Str} (nd : (nms B).Nodup) (pB : B'.Perm B) (so : sortedS (nms B') = true) (pm : ys.Perm (nms B)) (sy : sortedS ys = true) : mapN ys (val0 B) = B' := by
  have e : ys = nms B' := sorted_uniq (pm.trans (pB.map Prod.fst).symm) sy so
  have nd' : (nms B').Nodup := (pB.map Prod.fst).nodup_iff.mpr nd
  rw [e]
  refine Eq.trans ?_ (mapN_self nd')
  unfold mapN
  refine List.map_congr_left fun z hz => ?_
  obtain ⟨p, hp, rfl⟩ := List.mem_map.mp hz
  unfold val0
  rw [getB_of_mem nd' (show (p.1, p.2) ∈ B' from hp), getB_of_mem nd (show (p.1, p.2) ∈ B from pB.mem_iff.mp hp)]
theorem sort_P {P P' : Pi} {qs : List (Str × Str)} (nd : (P.map Prod.fst).Nodup) (pP : P'.Perm P) (so : SrtP P') (pm : qs.Perm (P.map Prod.fst)) (sy : qs.Pairwise (fun x y => Rl.ltP y x = false)) : mapP qs (valP0 P) = P' := by
  have e : qs = P'.map Prod.fst := pairs_uniq (pm.trans (pP.map Prod.fst).symm) sy so
  have nd' : (P'.map Prod.fst).Nodup := (pP.map Prod.fst).nodup_iff.mpr nd
  rw [e]
  refine Eq.trans ?_ (mapP_self nd')
  unfold mapP
  refine List.map_congr_left fun z hz => ?_
  obtain ⟨p, hp, rfl⟩ := List.mem_map.mp hz
  unfold valP0
  rw [getP_of_mem nd' (show (p.1, p.2) ∈ P' from hp), getP_of_mem nd (show (p.1, p.2) ∈ P from pP.mem_iff.mp hp)]
/-- a table handed in: numbers of some ponds -/
structure Tbl (B Qd : Br) : Prop where
  nd : (nms Qd).Nodup
  el : ∀ y ∈ Qd, y.1 ∈ nms B ∧ 0 ≤ y.2 ∧ y.2 < PT
theorem Tbl.val {B Qd : Br} (t : Tbl B Qd) (z : Str) : 0 ≤ val0 Qd z ∧ val0 Qd z < PT := by
  unfold val0
  cases e : getB Qd z with
  | none => exact ⟨Int.le_refl _, by rw [PT_eq]; decide⟩
  | some v =>
    have : (z, v) ∈ Qd := by
      have h1 : valV (bk Qd) (Sum.inr z : Key) = some (.int v) := by rw [valV_bk, e]; rfl
      obtain ⟨p, hp, e2⟩ := bk_in (valV_out h1)
      injection e2 with e3 e4
      rw [Sum.inr.inj e3, V.int.inj e4]
      exact hp
    exact (t.el _ this).2
theorem Tbl.fig {B B' Qd : Br} {Pp : Pi} (t : Tbl B Qd) (good : Good B Pp) (pB : B'.Perm B) : Fig (fill B' Qd) ∧ ∀ x ∈ fill B' Qd, x.2 < PT := by
  have h : ∀ x ∈ fill B' Qd, Sm 8 x.1 ∧ 0 ≤ x.2 ∧ x.2 < PT := fun x hx => by
    obtain ⟨z, hz, rfl⟩ := List.mem_map.mp hx
    obtain ⟨p, hp, rfl⟩ := List.mem_map.mp hz
    exact ⟨((good.wf.rb p (pB.mem_iff.mp hp)).1 : Nm _).sm, t.val p.1⟩
  refine ⟨⟨?_, fun x hx => ⟨(h x hx).1, (h x hx).2.1, Int.lt_of_lt_of_le (h x hx).2.2 PT_1⟩⟩, fun x hx => (h x hx).2.2⟩
  unfold fill
  rw [List.length_map, nms_len, pB.length_eq]
  exact good.wf.lb
def spLSorted : Sp := fun vs H Q E => spLSortedK vs H Q E ∨ spLSortedT vs H Q E
def spLText : Sp := fun vs H Q _ => ∃ (a j fd o : Addr) (B : Br) (Pp : Pi) (Qf Qo : Br), vs = [.ref a, .ref j, .ref fd, .ref o] ∧ H a = some (.dK (bk B)) ∧ H j = some (.dT (pt Pp)) ∧ H fd = some (.dK (bk Qf)) ∧ H o = some (.dK (bk Qo)) ∧ Good B Pp ∧ Tbl B Qf ∧ Tbl B Qo ∧
  ∀ (H' : Hp) (B' : Br) (P' : Pi), Same H H' → B'.Perm B → sortedS (nms B') = true → P'.Perm Pp → SrtP P' → Q (.str (standS B' P' (fill B' Qf) (fill B' Qo))) H'
def spIsTold (CS C : Addr) : Sp := fun vs H Q _ => ∃ (a j fd o s : Addr) (B : Br) (Pp : Pi) (Qf Qo B' : Br) (P' : Pi), vs = [.ref a, .ref j, .ref fd, .ref o, .ref s] ∧ H a = some (.dK (bk B)) ∧ H j = some (.dT (pt Pp)) ∧ H fd = some (.dK (bk Qf)) ∧ H o = some (.dK (bk Qo)) ∧ Good B Pp ∧ Tbl B Qf ∧ Tbl B Qo ∧
  B'.Perm B ∧ sortedS (nms B') = true ∧ P'.Perm Pp ∧ SrtP P' ∧ StandAt CS C H s B' P' (fill B' Qf) (fill B' Qo) ∧ ∀ H', Same H H' → Q (.bl true) H'
/-- what a net has nothing in common with -/
def NOff (C : Addr) (H : Hp) (n a : Addr) : Prop := ∃ dxn e1 e2, H n = some (.ins C dxn (nf e1 e2)) ∧ a ≠ e1 ∧ a ≠ e2.w ∧ a ≠ e2.o ∧ a ≠ e2.i
theorem NOff.same {C : Addr} {H H' : Hp} {n a : Addr} (h : NOff C H n a) (s : Same H H') : NOff C H' n a := by
  obtain ⟨dxn, e1, e2, hn, r⟩ := h
  exact ⟨dxn, e1, e2, s _ _ hn, r⟩
theorem net_mkO {C a j : Addr} {H : Hp} {B : Br} {Pp : Pi} {Q : Addr → Hp → Prop} {E : XK} (hA : H a = some (.dK (bk B))) (hJ : H j = some (.dT (pt Pp))) (good : Good B Pp)
    (q : ∀ (n : Addr) (B' : Br) (P' : Pi) (H' : Hp), Same H H' → H n = none → NetAt C H' n B' P' → B'.Perm B → P'.Perm Pp → sortedS (nms B') = true → SrtP P' → (∀ u o, H u = some o → NOff C H' n u) → Q n H') :
    ∀ x dx, H x = none → H dx = none → dx ≠ x → spNInit C [.ref x, .ref a, .ref j] (upd (upd H dx (.own x)) x (.ins C dx [])) (fun v H2 => v = .non ∧ Q x H2) E := by
  intro x dx nx ndx ne
  have k : ∀ b o, H b = some o → upd (upd H dx (.own x)) x (.ins C dx []) b = some o := fun b o e => by
    rw [upd_ne (ne_of_none e nx), upd_ne (ne_of_none e ndx)]; exact e
  refine ⟨x, dx, a, j, B, Pp, rfl, upd_same, k _ _ hA, k _ _ hJ, good, fun H' B' P' N pB pP so st W kp => ⟨rfl, q x B' P' H' (fun b o e => kp b o (k b o e) (ne_of_none e nx)) nx N pB pP so st fun u o hu => ?_⟩⟩
  obtain ⟨dx', e1, e2, w8, n1, n2, n3, n4⟩ := W
  exact ⟨dx', e1, e2, w8, ne_of_none (k u _ hu) n1, ne_of_none (k u _ hu) n4, ne_of_none (k u _ hu) n2, ne_of_none (k u _ hu) n3⟩
theorem net_mk {C a j : Addr} {H : Hp} {B : Br} {Pp : Pi} {Q : Addr → Hp → Prop} {E : XK} (hA : H a = some (.dK (bk B))) (hJ : H j = some (.dT (pt Pp))) (good : Good B Pp)
    (q : ∀ (n : Addr) (B' : Br) (P' : Pi) (H' : Hp), Same H H' → H n = none → NetAt C H' n B' P' → B'.Perm B → P'.Perm Pp → sortedS (nms B') = true → SrtP P' → Q n H') :
    ∀ x dx, H x = none → H dx = none → dx ≠ x → spNInit C [.ref x, .ref a, .ref j] (upd (upd H dx (.own x)) x (.ins C dx [])) (fun v H2 => v = .non ∧ Q x H2) E :=
  net_mkO hA hJ good fun n B' P' H' s0 nn N pB pP so st _ => q n B' P' H' s0 nn N pB pP so st
theorem mapN_permB {B : Br} {ys : List Str} (nd : (nms B).Nodup) (pm : ys.Perm (nms B)) : (mapN ys (val0 B)).Perm B := by
  have := pm.map fun z => (z, val0 B z)
  exact this.trans (List.Perm.of_eq (mapN_self nd))
theorem mapP_permP {P : Pi} {qs : List (Str × Str)} (nd : (P.map Prod.fst).Nodup) (pm : qs.Perm (P.map Prod.fst)) : (mapP qs (valP0 P)).Perm P := by
  have := pm.map fun z => (z, valP0 P z)
  exact this.trans (List.Perm.of_eq (mapP_self nd))
theorem mapP_keys (qs : List (Str × Str)) (f : Str × Str → Int) : (mapP qs f).map Prod.fst = qs := by
  unfold mapP
  rw [List.map_map]; exact List.map_id' _
theorem netSame_perm {B B2 : Br} {P P2 : Pi} (nb : (nms B).Nodup) (np : (P.map Prod.fst).Nodup) (pB : B.Perm B2) (pP : P.Perm P2) : netSame B P B2 P2 = true := by
  have e1 : Rl.sameD (bk B) (bk B2) = true := sameD_perm (bk_nd nb) (pB.map _)
  have e2 : Rl.sameD (pt P) (pt P2) = true := sameD_perm (pt_nd np) (pP.map _)
  unfold netSame
  rw [e1, e2]; rfl
section
variable {P : Program} {w : World} {K : PySem.W.Frag} {mg : Str → Option Value} {base : Heap}
theorem scLText : FnScope ["_law_wide", "_law_joins", "_law_fed", "_law_often", "_law_inner"] ["_law_wide", "_law_joins", "_law_fed", "_law_often"] (defScope s_law_text) := ⟨rfl, rfl, rfl, by decide +kernel, rfl, by decide +kernel, by decide +kernel⟩
theorem ok_ltext {f f_lsorted f_lall C CS : Addr} {fd fd_lsorted fd_lall : FuncData} (F : Fun K "_law_text" "_law_text" s_law_text f fd) (T : TxN K mg C) (TS : TxS K mg CS) (x_repr : mg "repr" = none)
    (F_lsorted : Fun K "_law_sorted" "_law_sorted" s_law_sorted f_lsorted fd_lsorted) (G_lsorted : FnOk P w K mg base CX0 1 f_lsorted fd_lsorted ["_law_table"] spLSorted) (b_lsorted : Binds K fd_lsorted ["_law_table"] []) (g_lsorted : mg "_law_sorted" = some (.ref f_lsorted))
    (F_lall : Fun K "_law_all" "_law_all" s_law_all f_lall fd_lall) (G_lall : FnOk P w K mg base CX0 1 f_lall fd_lall ["_law_wide", "_law_given"] spLAll) (b_lall : Binds K fd_lall ["_law_wide", "_law_given"] []) (g_lall : mg "_law_all" = some (.ref f_lall))
    (x_repr : mg "repr" = none) : Rl.FnG P w K mg base CX0 2 f fd ["_law_wide", "_law_joins", "_law_fed", "_law_often"] spLText := by
  refine Rl.okG F scLText (fun vs H Q E h => ?_) (fun cdv A outer s H vs Q E hg hr h => ?_)
  · obtain ⟨a, j, fd', o, B, Pp, Qf, Qo, rfl, _⟩ := h
    rfl
  · obtain ⟨a, j, fd', o, B, Pp, Qf, Qo, rfl, hA, hJ, hF, hO, good, tf, to_, q⟩ := h
    refine ⟨_, (pss_cons (ps_set (i := 4) scLText.nd rfl (by first | exact .inl rfl | exact .inr rfl) (pe_op op_add_str (pe_op op_add_str (pe_op op_add_str (pe_op op_add_str pe_str (pe_callB (r := Rl.rReprD) (Rl.call_reprD hg hr.units) (by rfl) x_repr (by decide +kernel) (pa_cons (pe_call G_lsorted hr (by rfl) g_lsorted F_lsorted.kp b_lsorted .nil pass0 (pa_cons (pv 0) pa_nil)) pa_nil))) pe_str) (pe_callB (r := Rl.rReprD) (Rl.call_reprD hg hr.units) (by rfl) x_repr (by decide +kernel) (pa_cons (pe_call G_lsorted hr (by rfl) g_lsorted F_lsorted.kp b_lsorted .nil pass0 (pa_cons (pv 1) pa_nil)) pa_nil))) pe_str))
      (pss_one (ps_ret (pe_op op_add_str (pe_op op_add_str (pe_op op_add_str (pe_op op_add_str (pe_op op_add_str (pe_op op_add_str pe_str (pv 4)) pe_str) (pe_callB (r := Rl.rReprD) (Rl.call_reprD hg hr.units) (by rfl) x_repr (by decide +kernel) (pa_cons (pe_call G_lall hr (by rfl) g_lall F_lall.kp b_lall .nil pass0 (pa_cons (pv 0) (pa_cons (pv 2) pa_nil))) pa_nil))) pe_str) (pe_callB (r := Rl.rReprD) (Rl.call_reprD hg hr.units) (by rfl) x_repr (by decide +kernel) (pa_cons (pe_call G_lall hr (by rfl) g_lall F_lall.kp b_lall .nil pass0 (pa_cons (pv 0) (pa_cons (pv 3) pa_nil))) pa_nil))) pe_str)))), ?_⟩
    have wf := good.wf
    refine ⟨.ref a, rfl, .inl ⟨a, B, rfl, hA, wf.nb, by have := wf.lb; omega, fun H1 r1 ys s1 nr1 pm1 so1 h1 => ?_⟩⟩
    have pB := mapN_permB wf.nb pm1
    have nB : nms (mapN ys (val0 B)) = ys := by unfold mapN; rw [nms_map]
    have g1 := good.perm pB.symm (List.Perm.refl _)
    obtain ⟨a1, a2, a3⟩ := dN_ok g1.wf
    refine ⟨r1, _, rfl, .inl ⟨_, h1, rfl⟩, a1, a2, by rw [sizeLine_eq]; omega, ?_⟩
    have eN : ("Net(" : Str).length = 4 := by decide +kernel
    have eC : (", " : Str).length = 2 := by decide +kernel
    have eP : (")" : Str).length = 1 := by decide +kernel
    have eS : ("Stand(" : Str).length = 6 := by decide +kernel
    refine ⟨_, _, rfl, rfl, by rw [sizeLine_eq]; omega, _, _, rfl, rfl, by rw [Str.length_append, sizeLine_eq]; omega, ?_⟩
    refine ⟨.ref j, rfl, .inr ⟨j, Pp, rfl, s1 _ _ hJ, wf.np, wf.lp, fun H2 r2 qs s2 nr2 pm2 so2 h2 => ?_⟩⟩
    have pP := mapP_permP wf.np pm2
    have g2 := good.perm pB.symm pP.symm
    obtain ⟨b1, b2, b3⟩ := dP_ok g2.wf
    refine ⟨r2, _, rfl, .inr ⟨_, h2, rfl⟩, b1, b2, by rw [sizeLine_eq]; omega, ?_⟩
    refine ⟨_, _, rfl, rfl, by rw [Str.length_append, Str.length_append, sizeLine_eq]; omega, _, _, rfl, rfl, by rw [Str.length_append, Str.length_append, Str.length_append, sizeLine_eq]; omega, ?_⟩
    have s12 := s1.trans s2
    have eI : ((("Net(" : Str) ++ (Rl.dN (mapN ys (val0 B))).shown ++ (", " : Str)) ++ (Rl.dP (mapP qs (valP0 Pp))).shown) ++ (")" : Str) = netS (mapN ys (val0 B)) (mapP qs (valP0 Pp)) := by
      unfold netS
      rw [Str.empty_append]
    rw [eI]
    have lI := netS_len g2.wf
    refine ⟨_, rfl, _, _, rfl, rfl, by rw [sizeLine_eq]; omega, _, _, rfl, rfl, by rw [Str.length_append, sizeLine_eq]; omega, ?_⟩
    have fz : ∀ {Qd : Br} {zs : List Str}, zs.Perm (nms B) → sortedS zs = true → mapN zs (val0 Qd) = fill (mapN ys (val0 B)) Qd := fun {Qd zs} pz sz => by
      rw [sorted_uniq (pz.trans pm1.symm) sz so1]
      exact fill_of nB
    refine ⟨.ref a, rfl, .ref fd', rfl, a, fd', B, Qf, rfl, s12 _ _ hA, s12 _ _ hF, wf.nb, by have := wf.lb; omega, fun H3 r3 zs s3 nr3 pm3 so3 h3 => ?_⟩
    rw [fz pm3 so3] at h3
    obtain ⟨fgf, ltf⟩ := tf.fig good pB
    obtain ⟨c1, c2, c3⟩ := dN_far fgf ltf
    have l3 := shownOf_len fgf
    have e3 := shown_dN fun x hx => (fgf.el x hx).2.1
    refine ⟨r3, _, rfl, .inl ⟨_, h3, rfl⟩, c1, c2, c3, ?_⟩
    rw [e3]
    refine ⟨_, _, rfl, rfl, by rw [Str.length_append, Str.length_append, sizeLine_eq]; omega, _, _, rfl, rfl, by rw [Str.length_append, Str.length_append, Str.length_append, sizeLine_eq]; omega, ?_⟩
    have s13 := s12.trans s3
    refine ⟨.ref a, rfl, .ref o, rfl, a, o, B, Qo, rfl, s13 _ _ hA, s13 _ _ hO, wf.nb, by have := wf.lb; omega, fun H4 r4 zs4 s4 nr4 pm4 so4 h4 => ?_⟩
    rw [fz pm4 so4] at h4
    obtain ⟨fgo, lto⟩ := to_.fig good pB
    obtain ⟨d1, d2, d3⟩ := dN_far fgo lto
    have l4 := shownOf_len fgo
    have e4 := shown_dN fun x hx => (fgo.el x hx).2.1
    refine ⟨r4, _, rfl, .inl ⟨_, h4, rfl⟩, d1, d2, d3, ?_⟩
    rw [e4]
    refine ⟨_, _, rfl, rfl, by rw [Str.length_append, Str.length_append, Str.length_append, Str.length_append, sizeLine_eq]; omega, _, _, rfl, rfl, by rw [Str.length_append, Str.length_append, Str.length_append, Str.length_append, Str.length_append, sizeLine_eq]; omega, ?_⟩
    have := q H4 (mapN ys (val0 B)) (mapP qs (valP0 Pp)) (s13.trans s4) pB (by rw [nB]; exact so1) pP (by unfold SrtP; rw [mapP_keys]; exact so2)
    unfold standS at this
    rw [Str.empty_append] at this
    exact this
theorem scIsTold : FnScope ["_law_wide", "_law_joins", "_law_fed", "_law_often", "_law_stand"] ["_law_wide", "_law_joins", "_law_fed", "_law_often", "_law_stand"] (defScope sIsTold) := ⟨rfl, rfl, rfl, by decide +kernel, rfl, by decide +kernel, by decide +kernel⟩
theorem ok_isTold {f f_ltext f_snet f_pours f_lall f_counts C CS : Addr} {fd fd_ltext fd_snet fd_pours fd_lall fd_counts : FuncData} {f_sRepr f_nEq f_nI : Addr} {fd_sRepr fd_nEq fd_nI : FuncData} {dsNet2 : List Value} (F : Fun K "_law_is_told" "_law_is_told" sIsTold f fd) (T : TxN K mg C) (TS : TxS K mg CS) (x_repr : mg "repr" = none)
    (G_sRepr : Rl.FnG P w K mg base CX0 3 f_sRepr fd_sRepr ["self"] (spSRepr CS C)) (b_sRepr : Binds K fd_sRepr ["self"] []) (i_sr : PySem.W.findIn K (.ref CS) "__repr__" = some (some (.ref f_sRepr))) (j_sr : PySem.W.isFn K (.ref f_sRepr) = true)
    (m_nEq : Meth K C "__eq__" f_nEq) (G_nEq : FnOk P w K mg base CX0 1 f_nEq fd_nEq ["self", "other"] (Rl.spEqY (NetY K C))) (b_nEq : Binds K fd_nEq ["self", "other"] []) (IC : C8.InsC K C) (nk_C : Rl.NoKd K C)
    (F_ltext : Fun K "_law_text" "_law_text" s_law_text f_ltext fd_ltext) (G_ltext : Rl.FnG P w K mg base CX0 2 f_ltext fd_ltext ["_law_wide", "_law_joins", "_law_fed", "_law_often"] spLText) (b_ltext : Binds K fd_ltext ["_law_wide", "_law_joins", "_law_fed", "_law_often"] []) (g_ltext : mg "_law_text" = some (.ref f_ltext))
    (m_snet : Meth K CS "net" f_snet) (G_snet : FnOk P w K mg base CX0 1 f_snet fd_snet ["self"] (spSNet CS C)) (b_snet : Binds K fd_snet ["self"] [])
    (MN : Mk K C f_nI) (G_nI : FnOk P w K mg base CX0 5 f_nI fd_nI ["self", "brims", "pipes"] (spNInit C))
    (b_n : Binds K fd_nI ["self", "brims", "pipes"] dsNet2) (v_n : Vals [] dsNet2)
    (m_pours : Meth K CS "pours" f_pours) (G_pours : FnOk P w K mg base CX0 1 f_pours fd_pours ["self"] (spPours CS C)) (b_pours : Binds K fd_pours ["self"] [])
    (F_lall : Fun K "_law_all" "_law_all" s_law_all f_lall fd_lall) (G_lall : FnOk P w K mg base CX0 1 f_lall fd_lall ["_law_wide", "_law_given"] spLAll) (b_lall : Binds K fd_lall ["_law_wide", "_law_given"] []) (g_lall : mg "_law_all" = some (.ref f_lall))
    (m_counts : Meth K CS "counts" f_counts) (G_counts : FnOk P w K mg base CX0 1 f_counts fd_counts ["self"] (spCounts CS C)) (b_counts : Binds K fd_counts ["self"] [])
    (x_repr : mg "repr" = none) : Rl.FnG P w K mg base CX0 7 f fd ["_law_wide", "_law_joins", "_law_fed", "_law_often", "_law_stand"] (spIsTold CS C) := by
  refine Rl.okG F scIsTold (fun vs H Q E h => ?_) (fun cdv A outer s H vs Q E hg hr h => ?_)
  · obtain ⟨a, j, fd', o, s', B, Pp, Qf, Qo, B', P', rfl, _⟩ := h
    rfl
  · obtain ⟨a, j, fd', o, s', B, Pp, Qf, Qo, B', P', rfl, hA, hJ, hF, hO, good, tf, to_, pB, sB, pP, sP, S, q⟩ := h
    have hr1 := hr.mono (show 1 ≤ 6 by decide)
    have hr2 := hr.mono (show 2 ≤ 6 by decide)
    have hr4 := hr.mono (show 4 ≤ 6 by decide)
    refine ⟨_, (pss_cons (ps_if (PW.pt (pw_or (pt_cmpR op_ne (pe_callB (r := Rl.rReprO CS (spSRepr CS C) E0) (Rl.call_reprO G_sRepr hg hr4 i_sr j_sr b_sRepr pass0) (by rfl) x_repr (by decide +kernel) (pa_cons (pv 4) pa_nil)) (Rl.pe_callG G_ltext hg hr2 (by rfl) g_ltext F_ltext.kp b_ltext .nil pass0 (pa_cons (pv 0) (pa_cons (pv 1) (pa_cons (pv 2) (pa_cons (pv 3) pa_nil))))) (nomark _)) (pw_or1 (pt_not (pt_cmpR (Rl.op_eqO G_nEq m_nEq.at_ m_nEq.fn nk_C b_nEq pass0 hr1) (pe_meth0 (pv 4) TS.cl m_snet G_snet hr1 b_snet .nil pass0) (pe_make MN G_nI hr (by rfl) T.mgC b_n v_n pass0 (pa_cons (pv 0) (pa_cons (pv 1) pa_nil))) (nomark _)))))) (pss_one (ps_ret pe_bl)) pss_nil)
      (pss_one (ps_ret (pe_and (pe_cmpR (Rl.op_eqK (Nat.lt_of_le_of_lt (Nat.le_add_right _ 64) hr.units)) (pe_meth0 (pv 4) TS.cl m_pours G_pours hr1 b_pours .nil pass0) (pe_call G_lall hr1 (by rfl) g_lall F_lall.kp b_lall .nil pass0 (pa_cons (pv 0) (pa_cons (pv 2) pa_nil))) (nomark _)) (pe_one (pe_cmpR (Rl.op_eqK (Nat.lt_of_le_of_lt (Nat.le_add_right _ 64) hr.units)) (pe_meth0 (pv 4) TS.cl m_counts G_counts hr1 b_counts .nil pass0) (pe_call G_lall hr1 (by rfl) g_lall F_lall.kp b_lall .nil pass0 (pa_cons (pv 0) (pa_cons (pv 3) pa_nil))) (nomark _))))))), ?_⟩
    have wf := good.wf
    have g' := good.perm pB.symm pP.symm
    obtain ⟨fgf, ltf⟩ := tf.fig good pB
    obtain ⟨fgo, lto⟩ := to_.fig good pB
    have ndf : (nms (fill B' Qf)).Nodup := by rw [fill_nms]; exact g'.wf.nb
    have ndo : (nms (fill B' Qo)).Nodup := by rw [fill_nms]; exact g'.wf.nb
    obtain ⟨dx, n, d1, d2, hs, N, h1, h2⟩ := id S.at_
    refine ⟨.ref s', rfl, s', dx, _, rfl, hs, s', B', P', fill B' Qf, fill B' Qo, rfl, S, g', ndf, fgf, ndo, fgo, fun H1 s1 => ?_⟩
    refine ⟨_, rfl, ?_⟩
    refine ⟨.ref a, rfl, .ref j, rfl, .ref fd', rfl, .ref o, rfl, a, j, fd', o, B, Pp, Qf, Qo, rfl, s1 _ _ hA, s1 _ _ hJ, s1 _ _ hF, s1 _ _ hO, good, tf, to_, fun H2 B2 P2 s2 pB2 sB2 pP2 sP2 => ?_⟩
    have eB : B2 = B' := by
      have h3 := sort_B wf.nb pB sB (pB2.map Prod.fst) sB2
      have h4 := sort_B wf.nb pB2 sB2 (pB2.map Prod.fst) sB2
      exact h4.symm.trans h3
    have eP : P2 = P' := by
      have h3 := sort_P wf.np pP sP (pP2.map Prod.fst) sP2
      have h4 := sort_P wf.np pP2 sP2 (pP2.map Prod.fst) sP2
      exact h4.symm.trans h3
    subst eB eP
    refine ⟨rfl, _, rfl, ?_⟩
    rw [decide_eq_true rfl]
    refine iteF ?_
    have s02 := s1.trans s2
    have S2 := S.same s02
    refine ⟨.ref s', rfl, s', dx, _, rfl, s02 _ _ hs, sf_no, s', _, _, _, _, rfl, S2, fun n' N' _ => ?_⟩
    refine ⟨.ref a, rfl, .ref j, rfl, ?_⟩
    refine net_mk (s02 _ _ hA) (s02 _ _ hJ) good fun n3 B3 P3 H3 s3 nn3 N3 pB3 pP3 so3 st3 => ?_
    have eN : netSame B2 P2 B3 P3 = true := netSame_perm g'.wf.nb g'.wf.np (pB.trans pB3.symm) (pP.trans pP3.symm)
    obtain ⟨dxn, e1, e2, hn, _⟩ := id (N'.same s3).at_
    obtain ⟨dxn3, e13, e23, hn3, _⟩ := id N3.at_
    refine ⟨netSame B2 P2 B3 P3, n', dxn, _, hn, fun H4 x4 => ?_, .inl ⟨rfl, ⟨.ref C, .ins hn3 IC.cl IC.ha IC.hn IC.htk IC.hm, by simp [PySem.W.notFirst]⟩, .inl ⟨B2, P2, n3, B3, P3, N'.same s3, rfl, N3, rfl⟩⟩⟩
    rw [eN]
    refine ⟨_, rfl, iteF ?_⟩
    have s24 : Same H2 H4 := fun b u e => x4 b u (s3 b u e)
    have S4 := S2.same s24
    have s04 := s02.trans s24
    have lB : B2.length ≤ 12 := g'.wf.lb
    have lf : (fill B2 Qf).length ≤ 12 := fgf.len
    have lo : (fill B2 Qo).length ≤ 12 := fgo.len
    have fz : ∀ {Qd : Br} {zs : List Str}, zs.Perm (nms B) → sortedS zs = true → mapN zs (val0 Qd) = fill B2 Qd := fun {Qd zs} pz sz => by
      rw [sorted_uniq (pz.trans (pB.map Prod.fst).symm) sz sB]
      exact fill_of rfl
    refine ⟨.ref s', rfl, s', dx, _, rfl, s04 _ _ hs, sf_no, s', _, _, _, _, rfl, S4, ndf, lf, fun H5 p5 s5 np5 h5 => ?_⟩
    have s05 := s04.trans s5
    refine ⟨.ref a, rfl, .ref fd', rfl, a, fd', B, Qf, rfl, s05 _ _ hA, s05 _ _ hF, wf.nb, by have := wf.lb; omega, fun H6 p6 ys6 s6 np6 pm6 so6 h6 => ?_⟩
    rw [fz pm6 so6] at h6
    refine ⟨p5, p6, _, _, rfl, rfl, s6 _ _ h5, h6, bk_ints, bk_ints, _, rfl, ?_⟩
    rw [sameD_refl (bk_nd ndf)]
    refine iteT ?_
    have s06 := s05.trans s6
    refine ⟨.ref s', rfl, s', dx, _, rfl, s06 _ _ hs, sf_no, s', _, _, _, _, rfl, S.same s06, ndo, lo, fun H7 p7 s7 np7 h7 => ?_⟩
    have s07 := s06.trans s7
    refine ⟨.ref a, rfl, .ref o, rfl, a, o, B, Qo, rfl, s07 _ _ hA, s07 _ _ hO, wf.nb, by have := wf.lb; omega, fun H8 p8 ys8 s8 np8 pm8 so8 h8 => ?_⟩
    rw [fz pm8 so8] at h8
    refine ⟨p7, p8, _, _, rfl, rfl, s8 _ _ h7, h8, bk_ints, bk_ints, ?_⟩
    rw [sameD_refl (bk_nd ndo)]
    exact q _ (s07.trans s8)
end
end Nl
end
section
set_option maxHeartbeats 4000000
namespace Nl
open PySem PySem.Spec PyProof.Rows L2 Nt
structure KindF (K : PySem.W.Frag) (CS C : Addr) : Prop where
  bt : ∀ {H : Hp} {y : V} {T : String}, Rl.Kd H y T → PySem.W.notFirst K CS (.type T) = true ∧ PySem.W.kitOne K (.type T) (.ref CS) = some false
  nn : PySem.W.notFirst K CS (.ref C) = true ∧ PySem.W.kitOne K (.ref C) (.ref CS) = some false
  ns : PySem.W.notFirst K C (.ref CS) = true ∧ PySem.W.kitOne K (.ref CS) (.ref C) = some false
theorem kd_ty {K : PySem.W.Frag} {H : Hp} {y : V} {T : String} (h : Rl.Kd H y T) : TyOf K H y (.type T) := by
  cases h with
  | non => exact .non
  | int i => exact .int i
  | str x => exact .str x
  | tup e => exact .tup e
  | dK e => exact .dK e
theorem kd_same {H H' : Hp} {y : V} {T : String} (h : Rl.Kd H y T) (s : Same H H') : Rl.Kd H' y T := by
  cases h with
  | non => exact .non
  | int i => exact .int i
  | str x => exact .str x
  | tup e => exact .tup (s _ _ e)
  | dK e => exact .dK (s _ _ e)
theorem opr_or {X : Cx} {f : Value → Value → Sem Value} {r1 r2 : R2} (h1 : OpR X f r1) (h2 : OpR X f r2) : OpR X f (fun x y H Q => r1 x y H Q ∨ r2 x y H Q) := fun pins s σ H x y v u Q I rx ry h => h.elim (h1 pins s σ H x y v u Q I rx ry) (h2 pins s σ H x y v u Q I rx ry)
def spUnlike (K : PySem.W.Frag) (CS C : Addr) : Sp := fun vs H Q _ => ∃ (s : Addr) (y : V) (B : Br) (Pp : Pi) (U W : Br), vs = [.ref s, y] ∧ StandAt CS C H s B Pp U W ∧
  ((∃ (s2 : Addr) (B2 : Br) (P2 : Pi) (U2 W2 : Br), y = .ref s2 ∧ StandAt CS C H s2 B2 P2 U2 W2 ∧ stSame B Pp U W B2 P2 U2 W2 = false ∧ stSame B2 P2 U2 W2 B Pp U W = false) ∨ (∃ T, Rl.Kd H y T) ∨ ∃ (n : Addr) (B2 : Br) (P2 : Pi), y = .ref n ∧ NetAt C H n B2 P2) ∧
  ∀ H', Same H H' → Q (.bl true) H'
/-- one more at one pond -/
def oneMore (Qd : Br) (z : Str) : Br := putB Qd z (val0 Qd z + 1)
def spLMore : Sp := fun vs H Q _ => ∃ (a : Addr) (Qd : Br) (z : Str), vs = [.ref a, .str z] ∧ H a = some (.dK (bk Qd)) ∧ (nms Qd).Nodup ∧ Qd.length ≤ 12 ∧
  ∀ (H' : Hp) (r : Addr), Same H H' → H r = none → H' r = some (.dK (bk (putB Qd z (val0 Qd z + 1)))) → Q (.ref r) H'
def spOtherw : Sp := fun vs H Q _ => ∃ (p a b : Addr) (B Qd : Br), vs = [.ref p, .ref a, .ref b] ∧ PotAt H p ∧ H a = some (.dK (bk B)) ∧ H b = some (.dK (bk Qd)) ∧ (nms B).Nodup ∧ B.length ≤ 12 ∧ (∀ z, 0 ≤ val0 Qd z) ∧
  ∀ (H' : Hp) (r : Addr) (Q2 : Br), Kp p H H' → PotAt H' p → H r = none → H' r = some (.dK (bk Q2)) → (nms Q2).Nodup → (∀ y ∈ Q2, y.1 ∈ nms B) → (∀ z ∈ nms B, val0 Q2 z = val0 Qd z) → Q (.ref r) H'
theorem PairsAt.ins {H : Hp} {as : List Addr} {l : Br} (h : PairsAt H as l) {q : Addr} {p : Str × Int} (k : Nat) (hk : k ≤ l.length) (hq : H q = some (.tup [.str p.1, .int p.2])) :
    PairsAt H (as.take k ++ [q] ++ as.drop k) (l.take k ++ [p] ++ l.drop k) := by
  have hl := h.1
  have hka : k ≤ as.length := by omega
  refine ⟨by simp [List.length_append, List.length_take, List.length_drop]; omega, fun i p' e => ?_⟩
  have l1 : (as.take k).length = k := by rw [List.length_take]; omega
  have l2 : (l.take k).length = k := by rw [List.length_take]; omega
  rw [List.append_assoc] at e ⊢
  rcases Nat.lt_or_ge i k with c | c
  · rw [List.getElem?_append_left (by omega), List.getElem?_take_of_lt c] at e
    rw [List.getElem?_append_left (by omega), List.getElem?_take_of_lt c]
    exact h.2 i p' e
  · rw [List.getElem?_append_right (by omega), l2] at e
    rw [List.getElem?_append_right (by omega), l1]
    cases hi : i - k with
    | zero =>
      rw [hi] at e
      have e' : p = p' := by simpa using e
      subst e'
      exact ⟨q, by simp, hq⟩
    | succ n =>
      rw [hi] at e
      have e' : l[k + n]? = some p' := by simpa using e
      obtain ⟨q', e1, e2⟩ := h.2 _ p' e'
      exact ⟨q', by simpa using e1, e2⟩
theorem map_ins (as : List Addr) (t : Addr) (k : Nat) : (as.map V.ref).take k ++ [V.ref t] ++ (as.map V.ref).drop k = (as.take k ++ [t] ++ as.drop k).map V.ref := by
  rw [List.map_append, List.map_append, List.map_take, List.map_drop]; rfl
theorem ins_perm (l : Br) (p : Str × Int) (k : Nat) : (l.take k ++ [p] ++ l.drop k).Perm (p :: l) := by
  have h : (l.take k ++ [p] ++ l.drop k).Perm (p :: (l.take k ++ l.drop k)) := by
    rw [List.append_assoc]; exact List.perm_middle
  rw [List.take_append_drop] at h
  exact h
section
variable {P : Program} {w : World} {K : PySem.W.Frag} {mg : Str → Option Value} {base : Heap}
theorem scUnlike : FnScope ["_law_one", "_law_other"] ["_law_one", "_law_other"] (defScope s_law_unlike) := ⟨rfl, rfl, rfl, by decide +kernel, rfl, by decide +kernel, by decide +kernel⟩
theorem ok_unlike {f  C CS : Addr} {fd  : FuncData} {f_nEq f_sEq : Addr} {fd_nEq fd_sEq : FuncData} (F : Fun K "_law_unlike" "_law_unlike" s_law_unlike f fd) (T : TxN K mg C) (TS : TxS K mg CS)
    (m_nEq : Meth K C "__eq__" f_nEq) (G_nEq : FnOk P w K mg base CX0 1 f_nEq fd_nEq ["self", "other"] (Rl.spEqY (NetY K C))) (b_nEq : Binds K fd_nEq ["self", "other"] [])
    (m_sEq : Meth K CS "__eq__" f_sEq) (G_sEq : FnOk P w K mg base CX0 2 f_sEq fd_sEq ["self", "other"] (Rl.spEqY (StY K CS C))) (b_sEq : Binds K fd_sEq ["self", "other"] []) (IC : C8.InsC K C) (ICS : C8.InsC K CS) (nk_C : Rl.NoKd K C) (nk_CS : Rl.NoKd K CS) (kf : KindF K CS C)
     : FnOk P w K mg base CX0 3 f fd ["_law_one", "_law_other"] (spUnlike K CS C) := by
  refine F.ok scUnlike (fun vs H Q E h => ?_) (fun cdv A outer s H vs Q E hr h => ?_)
  · obtain ⟨s0, y, B, Pp, U, W, rfl, _⟩ := h
    rfl
  · obtain ⟨s0, y, B, Pp, U, W, rfl, S, h, q⟩ := h
    have hr1 := hr.mono (show 1 ≤ 2 by decide)
    have hr2 := hr
    refine ⟨_, (pss_one (ps_ret (pe_and (pe_not (pe_cmpR (Rl.op_eqO G_sEq m_sEq.at_ m_sEq.fn nk_CS b_sEq pass0 hr2) (pv 0) (pv 1) (nomark _))) (pe_one (pe_not (pe_cmpR (opr_or (Rl.op_eqO G_sEq m_sEq.at_ m_sEq.fn nk_CS b_sEq pass0 hr2) (Rl.op_eqO G_nEq m_nEq.at_ m_nEq.fn nk_C b_nEq pass0 hr1)) (pv 1) (pv 0) (nomark _))))))), ?_⟩
    obtain ⟨dx, n, d1, d2, hs, N, _⟩ := id S.at_
    have own : ∀ {H'} {s2 : Addr} {B2 : Br} {P2 : Pi} {U2 W2 : Br}, StandAt CS C H' s2 B2 P2 U2 W2 → ∃ dx fs, H' s2 = some (.ins CS dx fs) := fun h => by
      obtain ⟨dx, n, d1, d2, hs, _⟩ := h.at_
      exact ⟨dx, _, hs⟩
    have ownN : ∀ {H'} {s2 : Addr} {B2 : Br} {P2 : Pi}, NetAt C H' s2 B2 P2 → ∃ dx fs, H' s2 = some (.ins C dx fs) := fun h => by
      obtain ⟨dx, d1, d2, hs, _⟩ := h.at_
      exact ⟨dx, _, hs⟩
    have tS : ∀ {H'} {s2 : Addr} {dx fs}, H' s2 = some (.ins CS dx fs) → TyOf K H' (.ref s2) (.ref CS) := fun h => .ins h ICS.cl ICS.ha ICS.hn ICS.htk ICS.hm
    have tN : ∀ {H'} {s2 : Addr} {dx fs}, H' s2 = some (.ins C dx fs) → TyOf K H' (.ref s2) (.ref C) := fun h => .ins h IC.cl IC.ha IC.hn IC.htk IC.hm
    refine ⟨.ref s0, rfl, y, rfl, ?_⟩
    rcases h with ⟨s2, B2, P2, U2, W2, rfl, S2, e1, e2⟩ | ⟨Ty, kd⟩ | ⟨n2, B2, P2, rfl, N2⟩
    · obtain ⟨dx2, fs2, hs2⟩ := own S2
      refine ⟨false, s0, dx, _, hs, fun H1 x1 => ⟨_, rfl, _, rfl, iteT ?_⟩, .inl ⟨rfl, ⟨.ref CS, tS hs2, by simp [PySem.W.notFirst]⟩, .inl ⟨B, Pp, U, W, s2, B2, P2, U2, W2, S, rfl, S2, e1.symm⟩⟩⟩
      refine ⟨.ref s2, rfl, .ref s0, rfl, .inl ?_⟩
      exact ⟨false, s2, dx2, _, x1 _ _ hs2, fun H2 x2 => ⟨_, rfl, q H2 fun b o e => x2 b o (x1 b o e)⟩, .inl ⟨rfl, ⟨.ref CS, tS (x1 _ _ hs), by simp [PySem.W.notFirst]⟩, .inl ⟨B2, P2, U2, W2, s0, B, Pp, U, W, S2.same x1, rfl, S.same x1, e2.symm⟩⟩⟩
    · refine ⟨false, s0, dx, _, hs, fun H1 x1 => ⟨_, rfl, _, rfl, iteT ?_⟩, .inl ⟨rfl, ⟨.type Ty, kd_ty kd, (kf.bt kd).1⟩, .inr ⟨⟨.type Ty, kd_ty kd, (kf.bt kd).2⟩, rfl⟩⟩⟩
      refine ⟨y, rfl, .ref s0, rfl, .inl ?_⟩
      exact ⟨false, s0, dx, _, x1 _ _ hs, fun H2 x2 => ⟨_, rfl, q H2 fun b o e => x2 b o (x1 b o e)⟩, .inr ⟨rfl, ⟨Ty, kd_same kd x1⟩, .inr ⟨⟨.type Ty, kd_ty (kd_same kd x1), (kf.bt kd).2⟩, rfl⟩⟩⟩
    · obtain ⟨dx2, fs2, hs2⟩ := ownN N2
      refine ⟨false, s0, dx, _, hs, fun H1 x1 => ⟨_, rfl, _, rfl, iteT ?_⟩, .inl ⟨rfl, ⟨.ref C, tN hs2, kf.nn.1⟩, .inr ⟨⟨.ref C, tN hs2, kf.nn.2⟩, rfl⟩⟩⟩
      refine ⟨.ref n2, rfl, .ref s0, rfl, .inr ?_⟩
      exact ⟨false, n2, dx2, _, x1 _ _ hs2, fun H2 x2 => ⟨_, rfl, q H2 fun b o e => x2 b o (x1 b o e)⟩, .inl ⟨rfl, ⟨.ref CS, tS (x1 _ _ hs), kf.ns.1⟩, .inr ⟨⟨.ref CS, tS (x1 _ _ hs), kf.ns.2⟩, rfl⟩⟩⟩
theorem scLMore : FnScope ["_law_given", "_law_one", "_law_found"] ["_law_given", "_law_one"] (defScope sMore) := ⟨rfl, rfl, rfl, by decide +kernel, rfl, by decide +kernel, by decide +kernel⟩
theorem ok_lmore {f  C CS : Addr} {fd  : FuncData} (F : Fun K "_law_more" "_law_more" sMore f fd) (T : TxN K mg C) (TS : TxS K mg CS)
    (x_dict : mg "dict" = none) : FnOk P w K mg base CX0 1 f fd ["_law_given", "_law_one"] spLMore := by
  refine F.ok scLMore (fun vs H Q E h => ?_) (fun cdv A outer s H vs Q E hr h => ?_)
  · obtain ⟨a, Qd, z, rfl, _⟩ := h
    rfl
  · obtain ⟨a, Qd, z, rfl, hA, nd, lQ, q⟩ := h
    have hu := hu_of hr
    refine ⟨_, (pss_cons (ps_set (i := 2) scLMore.nd rfl (by first | exact .inl rfl | exact .inr rfl) (pe_callTy call_dictD (by rfl) x_dict (by decide +kernel) (pa_cons (pv 0) pa_nil)))
      (pss_cons (ps_dput hu (pv 2) (pv 1) (pe_op op_add (pe_dget2 hu (pv 2) (pv 1) pe_int ⟨rfl, rfl, rfl, rfl⟩) pe_int) rfl)
      (pss_one (ps_ret (pv 2))))), ?_⟩
    refine ⟨.ref a, rfl, a, _, rfl, .inl hA, fun D nD => ?_⟩
    obtain ⟨H1, eH1, s1, he⟩ : ∃ X, X = upd H D (.dK (bk Qd)) ∧ Same H X ∧ X D = some (.dK (bk Qd)) := ⟨_, rfl, same_new nD, upd_same⟩
    rw [← eH1]
    refine ⟨.ref D, rfl, D, rfl, .inl ⟨_, .inl he⟩, .str z, rfl, _, .inl ⟨_, Sum.inr z, .inl he, rfl, rfl⟩, ?_⟩
    rw [valV_bk, getD_val]
    refine ⟨_, _, rfl, rfl, ?_⟩
    refine ⟨.ref D, rfl, .str z, rfl, D, _, rfl, DPut.k (k := Sum.inr z) he (by rw [bk_len]; exact small1000 (by omega)), ?_⟩
    rw [putK_putB]
    refine ⟨.ref D, rfl, ?_⟩
    refine q _ D (fun b o e => ?_) nD upd_same
    rw [upd_ne (ne_of_none e nD)]; exact s1 b o e
theorem scOtherw : FnScope ["_law_pot_here", "_law_wide", "_law_given", "_law_rows", "_law_one"] ["_law_pot_here", "_law_wide", "_law_given"] (defScope s_law_otherwise) := ⟨rfl, rfl, rfl, by decide +kernel, rfl, by decide +kernel, by decide +kernel⟩
theorem ok_otherw {f f_draw C CS : Addr} {fd fd_draw : FuncData} (F : Fun K "_law_otherwise" "_law_otherwise" s_law_otherwise f fd) (T : TxN K mg C) (TS : TxS K mg CS)
    (F_draw : Fun K "_law_draw" "_law_draw" sDraw f_draw fd_draw) (G_draw : FnOk P w K mg base CX0 1 f_draw fd_draw ["_law_pot_here", "_law_many"] spDraw) (b_draw : Binds K fd_draw ["_law_pot_here", "_law_many"] []) (g_draw : mg "_law_draw" = some (.ref f_draw))
    (x_dict : mg "dict" = none)
    (x_len : mg "len" = none)
    (x_sorted : mg "sorted" = none) : FnOk P w K mg base CX0 2 f fd ["_law_pot_here", "_law_wide", "_law_given"] spOtherw := by
  refine F.ok scOtherw (fun vs H Q E h => ?_) (fun cdv A outer s H vs Q E hr h => ?_)
  · obtain ⟨p, a, b, B, Qd, rfl, _⟩ := h
    rfl
  · obtain ⟨p, a, b, B, Qd, rfl, hP, hA, hB, ndB, lB, q0, q⟩ := h
    have hu := hu_of hr
    refine ⟨_, (pss_cons (ps_set (i := 3) scOtherw.nd rfl (by first | exact .inl rfl | exact .inr rfl) (pe_lst pa_nil))
      (pss_cons (ps_for PassesOwn.never rfl (pi_list (pe_callB (call_sortedD rfl) (by rfl) x_sorted (by decide +kernel) (pa_cons (pv 1) pa_nil))) (pg_name (i := 4) scOtherw.nd rfl (by first | exact .inl rfl | exact .inr rfl))
        (pss_one (ps_if (PW.pt (pw_or (pt_cmpR op_gt (pe_dget2 hu (pv 2) (pv 4) pe_int ⟨rfl, rfl, rfl, rfl⟩) pe_int (nomark _)) (pw_or1 (pt_cmpR op_eq (pe_call G_draw hr (by rfl) g_draw F_draw.kp b_draw .nil pass0 (pa_cons (pv 0) (pa_cons pe_int pa_nil))) pe_int (nomark _))))) (pss_one (ps_expr (pe_bm PySem.F.plainAttrs_list PySem.F.slot_list_insert PySem.F.type_list_insert mt_insert (pv 3) (pa_cons (pe_call G_draw hr (by rfl) g_draw F_draw.kp b_draw .nil pass0 (pa_cons (pv 0) (pa_cons (pe_op op_add (pe_callB call_len_seq (by rfl) x_len PySem.boot_len (pa_cons (pv 3) pa_nil)) pe_int) pa_nil))) (pa_cons (pe_tup (pa_cons (pv 4) (pa_cons (pe_dget2 hu (pv 2) (pv 4) pe_int ⟨rfl, rfl, rfl, rfl⟩) pa_nil))) pa_nil))))) pss_nil)))
      (pss_one (ps_ret (pe_callTy (call_dictP rfl) (by rfl) x_dict (by decide +kernel) (pa_cons (pv 3) pa_nil)))))), ?_⟩
    refine ⟨line1000 (by show 0 ≤ 1000; decide), fun D nD => ?_⟩
    have hDp := hP.ne nD
    have s0 : Same H (upd H D (.lst [])) := same_new nD
    refine ⟨.ref a, rfl, a, bk B, nms B, rfl, .inl (s0 a _ hA), bk_keysL B, by rw [nms_len]; omega, fun M r pm so nr => ?_⟩
    have hP1 : PotAt (upd (upd H D (.lst [])) r (.lst (M.map V.str))) p := (hP.new nD).new nr
    have hrp : r ≠ p := (hP.new nD).ne nr
    have hDr : D ≠ r := ne_of_none upd_same nr
    have ndM : M.Nodup := pm.nodup_iff.mpr ndB
    have lM : M.length ≤ 12 := by rw [pm.length_eq, nms_len]; exact lB
    refine ⟨r, rfl, ⟨_, SqL.of upd_same⟩, ?_⟩
    refine for_it (walk_list (xs := M.map V.str)) (fun i σ H2 => ∃ (as : List Addr) (l : Br) (y4 : Option V), σ = [some (.ref p), some (.ref a), some (.ref b), some (.ref D), y4] ∧ H2 D = some (.lst (as.map V.ref)) ∧ PairsAt H2 as l ∧ H2 r = some (.lst (M.map V.str)) ∧ Kp p H H2 ∧ PotAt H2 p ∧ (nms l).Nodup ∧ (∀ x ∈ l, x.1 ∈ M.take i ∧ x.2 = val0 Qd x.1) ∧ (∀ z ∈ M.take i, 0 < val0 Qd z → z ∈ nms l))
      ⟨[], [], none, rfl, by rw [upd_ne hDr]; exact upd_same, ⟨rfl, fun i p e => by simp at e⟩, upd_same, (Kp.new nD).trans (Kp.new nr), hP1, List.nodup_nil, fun x hx => absurd hx List.not_mem_nil, fun z hz => absurd hz (by simp)⟩ (fun i σ H2 _ ⟨_, _, _, _, _, _, h, _⟩ => SqL.of h) ?_ ?_
    · rintro i x σ H0 H2 hi ⟨as, l, y4, rfl, hD2, pa2, hr2, kp, hP2, ndl, okl, inl⟩ ⟨e2, hx⟩
      subst e2
      rw [List.getElem?_map] at hx
      obtain ⟨z, hy, rfl⟩ := Option.map_eq_some_iff.mp hx
      have tk : M.take (i + 1) = M.take i ++ [z] := by rw [List.take_add_one, hy]; rfl
      have fr : z ∉ nms l := fun hz => by
        obtain ⟨v, hv, e⟩ := List.mem_map.mp hz
        have := (okl v hv).1
        rw [show v.1 = z from e] at this
        exact take_nd ndM hy this
      have ll : l.length ≤ 12 := by
        have h1 := len_le_of_sub ndl (m := M) (fun x hx => by
          obtain ⟨v, hv, e⟩ := List.mem_map.mp hx
          rw [← e]
          exact List.mem_of_mem_take (okl v hv).1)
        rw [nms_len] at h1
        omega
      have la : as.length ≤ 12 := by rw [pa2.1]; exact ll
      have up : ∀ x ∈ l, x.1 ∈ M.take (i + 1) ∧ x.2 = val0 Qd x.1 := fun x hx => ⟨by rw [tk]; exact List.mem_append_left _ (okl x hx).1, (okl x hx).2⟩
      have hb2 : H2 b = some (.dK (bk Qd)) := Kp.keep hP kp hB (by intro l e; cases e)
      refine ⟨.ref b, rfl, b, rfl, .inl ⟨_, .inl hb2⟩, .str z, rfl, _, .inl ⟨_, Sum.inr z, .inl hb2, rfl, rfl⟩, ?_⟩
      rw [valV_bk, getD_val]
      refine ⟨_, 0, rfl, rfl, _, rfl, ?_⟩
      by_cases c : 0 < val0 Qd z
      · rw [decide_eq_true (show val0 Qd z > 0 from c)]
        refine iteT ?_
        obtain ⟨H3, e3, k3, hP3⟩ : ∃ X, X = H2 ∧ Kp p H2 X ∧ PotAt X p := ⟨_, rfl, Kp.refl _ _, hP2⟩
        rw [← e3]
        refine ⟨.ref D, rfl, .inl ⟨rfl, _, SqL.of (k3 D _ hDp hD2)⟩, ?_⟩
        have hD3 := k3 D _ hDp hD2
        refine ⟨.ref p, rfl, .ref D, rfl, D, as.map V.ref, rfl, .inl (SqL.of hD3), _, _, rfl, rfl, p, _, rfl, hP3, by rw [List.length_map]; omega, by rw [List.length_map]; omega, fun v H4 k4 hP4 v0 v1 => ?_⟩
        rw [List.length_map] at v1
        have kp4 : Kp p H H4 := (kp.trans k3).trans k4
        have hb4 : H4 b = some (.dK (bk Qd)) := Kp.keep hP kp4 hB (by intro l e; cases e)
        have hD4 := k4 D _ hDp hD3
        have hr4 := k4 r _ hrp (k3 r _ hrp hr2)
        refine ⟨.str z, rfl, .ref b, rfl, b, rfl, .inl ⟨_, .inl hb4⟩, .str z, rfl, _, .inl ⟨_, Sum.inr z, .inl hb4, rfl, rfl⟩, ?_⟩
        rw [valV_bk, getD_val]
        refine ⟨line1000 (by show 2 ≤ 1000; decide), fun t nt => ?_⟩
        have nDt : D ≠ t := ne_of_none hD4 nt
        have nrt : r ≠ t := ne_of_none hr4 nt
        refine ⟨D, as.map V.ref, v, .ref t, rfl, rfl, by rw [upd_ne nDt]; exact hD4, by rw [List.length_map]; exact small1000 (by omega), v0, by omega, ?_⟩
        rw [map_ins]
        have kv : v.toNat ≤ l.length := by rw [← pa2.1]; omega
        have tl : ∀ b' xs, H2 b' = some (HO.tup xs) → H4 b' = some (HO.tup xs) := fun b' xs e => by
          have nb : b' ≠ p := fun z => by subst z; obtain ⟨_, _, e9, _⟩ := hP2; rw [e9] at e; cases e
          exact k4 _ _ nb (k3 _ _ nb e)
        have pm1 := ins_perm l (z, val0 Qd z) v.toNat
        have nm1 : (nms (l.take v.toNat ++ [(z, val0 Qd z)] ++ l.drop v.toNat)).Perm (z :: nms l) := pm1.map Prod.fst
        refine ⟨as.take v.toNat ++ [t] ++ as.drop v.toNat, l.take v.toNat ++ [(z, val0 Qd z)] ++ l.drop v.toNat, some (.str z), rfl, upd_same, ?_, ?_, ?_, ?_, ?_, ?_, ?_⟩
        · refine PairsAt.ins (pa2.keep fun b' xs e => ?_) _ kv (by rw [upd_ne (Ne.symm nDt), upd_same])
          have e4 := tl _ _ e
          have nb : b' ≠ D := fun z => by subst z; rw [hD4] at e4; cases e4
          rw [upd_ne nb, upd_ne (ne_of_none e4 nt)]; exact e4
        · rw [upd_ne (Ne.symm hDr), upd_ne nrt]; exact hr4
        · intro b' o nb e
          have e4 := kp4 b' o nb e
          rw [upd_ne (ne_of_none e nD), upd_ne (ne_of_none e4 nt)]; exact e4
        · exact (hP4.new nt).put hDp
        · exact nm1.nodup_iff.mpr (List.nodup_cons.mpr ⟨fr, ndl⟩)
        · intro x hx
          rcases List.mem_cons.mp (pm1.mem_iff.mp hx) with rfl | hx
          · exact ⟨by rw [tk]; exact List.mem_append_right _ (List.mem_singleton.mpr rfl), rfl⟩
          · exact up x hx
        · intro y hy0 hpos
          rw [tk] at hy0
          refine nm1.mem_iff.mpr ?_
          rcases List.mem_append.mp hy0 with h | h
          · exact List.mem_cons_of_mem _ (inl y h hpos)
          · rw [List.mem_singleton.mp h]; exact List.mem_cons_self
      · rw [decide_eq_false (show ¬ val0 Qd z > 0 from c)]
        refine iteF ?_
        refine ⟨.ref p, rfl, p, 2, rfl, hP2, by decide, by decide, fun d H3 k3 hP3 d0 d1 => ?_⟩
        refine ⟨rfl, _, rfl, ite2 (fun c2 => ?_) (fun c2 => ?_)⟩
        · skip
          refine ⟨.ref D, rfl, .inl ⟨rfl, _, SqL.of (k3 D _ hDp hD2)⟩, ?_⟩
          have hD3 := k3 D _ hDp hD2
          refine ⟨.ref p, rfl, .ref D, rfl, D, as.map V.ref, rfl, .inl (SqL.of hD3), _, _, rfl, rfl, p, _, rfl, hP3, by rw [List.length_map]; omega, by rw [List.length_map]; omega, fun v H4 k4 hP4 v0 v1 => ?_⟩
          rw [List.length_map] at v1
          have kp4 : Kp p H H4 := (kp.trans k3).trans k4
          have hb4 : H4 b = some (.dK (bk Qd)) := Kp.keep hP kp4 hB (by intro l e; cases e)
          have hD4 := k4 D _ hDp hD3
          have hr4 := k4 r _ hrp (k3 r _ hrp hr2)
          refine ⟨.str z, rfl, .ref b, rfl, b, rfl, .inl ⟨_, .inl hb4⟩, .str z, rfl, _, .inl ⟨_, Sum.inr z, .inl hb4, rfl, rfl⟩, ?_⟩
          rw [valV_bk, getD_val]
          refine ⟨line1000 (by show 2 ≤ 1000; decide), fun t nt => ?_⟩
          have nDt : D ≠ t := ne_of_none hD4 nt
          have nrt : r ≠ t := ne_of_none hr4 nt
          refine ⟨D, as.map V.ref, v, .ref t, rfl, rfl, by rw [upd_ne nDt]; exact hD4, by rw [List.length_map]; exact small1000 (by omega), v0, by omega, ?_⟩
          rw [map_ins]
          have kv : v.toNat ≤ l.length := by rw [← pa2.1]; omega
          have tl : ∀ b' xs, H2 b' = some (HO.tup xs) → H4 b' = some (HO.tup xs) := fun b' xs e => by
            have nb : b' ≠ p := fun z => by subst z; obtain ⟨_, _, e9, _⟩ := hP2; rw [e9] at e; cases e
            exact k4 _ _ nb (k3 _ _ nb e)
          have pm1 := ins_perm l (z, val0 Qd z) v.toNat
          have nm1 : (nms (l.take v.toNat ++ [(z, val0 Qd z)] ++ l.drop v.toNat)).Perm (z :: nms l) := pm1.map Prod.fst
          refine ⟨as.take v.toNat ++ [t] ++ as.drop v.toNat, l.take v.toNat ++ [(z, val0 Qd z)] ++ l.drop v.toNat, some (.str z), rfl, upd_same, ?_, ?_, ?_, ?_, ?_, ?_, ?_⟩
          · refine PairsAt.ins (pa2.keep fun b' xs e => ?_) _ kv (by rw [upd_ne (Ne.symm nDt), upd_same])
            have e4 := tl _ _ e
            have nb : b' ≠ D := fun z => by subst z; rw [hD4] at e4; cases e4
            rw [upd_ne nb, upd_ne (ne_of_none e4 nt)]; exact e4
          · rw [upd_ne (Ne.symm hDr), upd_ne nrt]; exact hr4
          · intro b' o nb e
            have e4 := kp4 b' o nb e
            rw [upd_ne (ne_of_none e nD), upd_ne (ne_of_none e4 nt)]; exact e4
          · exact (hP4.new nt).put hDp
          · exact nm1.nodup_iff.mpr (List.nodup_cons.mpr ⟨fr, ndl⟩)
          · intro x hx
            rcases List.mem_cons.mp (pm1.mem_iff.mp hx) with rfl | hx
            · exact ⟨by rw [tk]; exact List.mem_append_right _ (List.mem_singleton.mpr rfl), rfl⟩
            · exact up x hx
          · intro y hy0 hpos
            rw [tk] at hy0
            refine nm1.mem_iff.mpr ?_
            rcases List.mem_append.mp hy0 with h | h
            · exact List.mem_cons_of_mem _ (inl y h hpos)
            · rw [List.mem_singleton.mp h]; exact List.mem_cons_self
        · refine ⟨as, l, some (.str z), rfl, k3 D _ hDp hD2, pa2.keep fun b' xs e => ?_, k3 r _ hrp hr2, kp.trans k3, hP3, ndl, up, fun y hy0 hpos => ?_⟩
          · have nb : b' ≠ p := fun z => by subst z; obtain ⟨_, _, e9, _⟩ := hP2; rw [e9] at e; cases e
            exact k3 _ _ nb e
          · rw [tk] at hy0
            rcases List.mem_append.mp hy0 with h | h
            · exact inl y h hpos
            · exact absurd hpos (by rw [List.mem_singleton.mp h]; exact c)
    · rintro σ H2 ⟨as, l, y4, rfl, hD2, pa2, hr2, kp, hP2, ndl, okl, inl⟩
      rw [List.length_map, List.take_length] at okl inl
      refine ⟨.ref D, rfl, D, as, bk l, rfl, SqL.of hD2, paired_of pa2, fun m nm => ?_⟩
      have em : mergeK [] (bk l) = bk l := merge_bk _ [] ndl
      rw [em]
      refine q _ m l (kp.trans (Kp.new nm)) (hP2.new nm) (kp.free hP2 nm) upd_same ndl (fun y hy => pm.mem_iff.mp (okl y hy).1) fun z hz => ?_
      by_cases c : z ∈ nms l
      · obtain ⟨y, hy, e⟩ := List.mem_map.mp c
        have e1 : (z, y.2) ∈ l := by rw [← e]; exact hy
        have := getB_of_mem ndl e1
        unfold val0
        rw [this]
        show y.2 = val0 Qd z
        rw [(okl y hy).2, show y.1 = z from e]
      · have h1 : val0 l z = 0 := by
          unfold val0
          rw [getB_none c]; rfl
        have h2 : ¬ 0 < val0 Qd z := fun h => c (inl z (pm.mem_iff.mpr hz) h)
        have := q0 z
        omega
end
end Nl
end
section
set_option maxHeartbeats 4000000
namespace Nl
open PySem PySem.Spec PyProof.Rows L2 Nt
/-! ### nets a little otherwise: a pipe less, a pipe thinner, a brim more -/
def sans (pr : Str × Str) (P : Pi) : Pi := P.filter fun q => decide (q.1 ≠ pr)
theorem sans_perm {pr : Str × Str} {w : Int} : ∀ {P : Pi}, (P.map (·.1)).Nodup → (pr, w) ∈ P → P.Perm ((pr, w) :: sans pr P)
  | [], _, h => absurd h List.not_mem_nil
  | q :: P, nd, h => by
    rw [List.map_cons, List.nodup_cons] at nd
    obtain ⟨n1, n2⟩ := nd
    rcases List.mem_cons.mp h with e | h
    · have e1 : q.1 = pr := by rw [← e]
      have : sans pr (q :: P) = P := by
        unfold sans
        rw [List.filter_cons, if_neg (by simp [e1])]
        refine List.filter_eq_self.mpr fun r hr => decide_eq_true fun er => n1 ?_
        rw [e1, ← er]
        exact List.mem_map.mpr ⟨r, hr, rfl⟩
      rw [this, e]
    · have ne : q.1 ≠ pr := fun e => n1 (by rw [e]; exact List.mem_map.mpr ⟨_, h, rfl⟩)
      have : sans pr (q :: P) = q :: sans pr P := by
        unfold sans
        rw [List.filter_cons, if_pos (decide_eq_true ne)]
      rw [this]
      exact ((sans_perm n2 h).cons q).trans (List.Perm.swap _ _ _)
theorem sumOf_cons (f : (Str × Str) × Int → Bool) (q : (Str × Str) × Int) (P : Pi) : sumOf f (q :: P) = (if f q = true then q.2 else 0) + sumOf f P := by
  unfold sumOf
  rw [List.filter_cons]
  split
  · rw [List.map_cons, List.sum_cons]
  · omega
/-- the pipe taken away, or a thinner one put in its place -/
def Thin (pr : Str × Str) (w : Int) (P P' : Pi) : Prop := (pr, w) ∈ P ∧ (P' = sans pr P ∨ ∃ v, 1 ≤ v ∧ v < w ∧ P' = sans pr P ++ [(pr, v)])
theorem Good.thin {B : Br} {P P' : Pi} {pr : Str × Str} {w : Int} (g : Good B P) (h : Thin pr w P P') : Good B P' := by
  obtain ⟨hm, h⟩ := h
  have wf := g.wf
  have pm := sans_perm wf.np hm
  have wp : 1 ≤ w ∧ w ≤ 60 := (wf.rp _ hm).2.2.2
  have np : pr ∉ (sans pr P).map (·.1) := fun hx => by
    obtain ⟨q, hq, e⟩ := List.mem_map.mp hx
    exact of_decide_eq_true (List.mem_filter.mp hq).2 e
  have sub : ∀ q ∈ sans pr P, q ∈ P := fun q hq => (List.mem_filter.mp hq).1
  have nds : ((sans pr P).map (·.1)).Nodup := (List.filter_sublist.map _).nodup wf.np
  have len : (sans pr P).length + 1 = P.length := by rw [pm.length_eq]; rfl
  -- the sums
  have sm : ∀ f : (Str × Str) × Int → Bool, (∀ v v' : Int, f (pr, v) = f (pr, v')) → sumOf f P' ≤ sumOf f P ∧ (f (pr, w) = true → sumOf f P' < sumOf f P) := fun f ff => by
    have e1 : sumOf f P = _ := (sumOf_perm pm).trans (sumOf_cons f (pr, w) (sans pr P))
    rcases h with rfl | ⟨v, v1, v2, rfl⟩
    · rw [e1]
      split
      · exact ⟨by show _ ≤ w + _; omega, fun _ => by show _ < w + _; omega⟩
      · rename_i hf
        exact ⟨by omega, fun h => absurd h hf⟩
    · have e2 : sumOf f (sans pr P ++ [(pr, v)]) = sumOf f (sans pr P) + (if f (pr, v) = true then v else 0) := by
        rw [sumOf_append, sumOf_cons]
        have : sumOf f [] = 0 := rfl
        rw [this]; simp
      rw [e1, e2, ff v w]
      split
      · exact ⟨by show _ ≤ w + _; omega, fun _ => by show _ < w + _; omega⟩
      · rename_i hf
        exact ⟨by omega, fun h => absurd h hf⟩
  have ow : ∀ x, outW P' x ≤ outW P x := fun x => (sm _ fun _ _ => rfl).1
  have iw : ∀ x, inW P' x ≤ inW P x := fun x => (sm _ fun _ _ => rfl).1
  have olt : outW P' pr.1 < outW P pr.1 := (sm (fun p => decide (p.1.1 = pr.1)) fun _ _ => rfl).2 (decide_eq_true rfl)
  have m1 : pr.1 ∈ nms B := (wf.rp _ hm).1
  have op1 : Opn B P' pr.1 := by
    obtain ⟨q, hq, e⟩ := List.mem_map.mp m1
    have := (g.fit q hq).1
    rw [show q.1 = pr.1 from e] at this
    exact .soak (b := q.2) (by rw [← (show q.1 = pr.1 from e)]; exact hq) (by omega)
  have opn : ∀ x, Opn B P x → Opn B P' x := fun x hx => by
    induction hx with
    | soak h1 h2 => exact .soak h1 (Int.lt_of_le_of_lt (ow _) h2)
    | @step x y u h1 _ ih =>
      by_cases e : (x, y) = pr
      · rw [show x = pr.1 by rw [← e]]; exact op1
      · have : ((x, y), u) ∈ sans pr P := List.mem_filter.mpr ⟨h1, decide_eq_true e⟩
        rcases h with rfl | ⟨v, _, _, rfl⟩
        · exact .step this ih
        · exact .step (List.mem_append_left _ this) ih
  refine ⟨⟨wf.nb, wf.lb, wf.rb, ?_, ?_, ?_⟩, fun p hp => ⟨Int.le_trans (ow _) (g.fit p hp).1, Int.le_trans (iw _) (g.fit p hp).2⟩, fun x hx => opn x (g.op x hx)⟩
  · rcases h with rfl | ⟨v, _, _, rfl⟩
    · exact nds
    · rw [List.map_append]
      refine List.nodup_append.mpr ⟨nds, List.nodup_cons.mpr ⟨List.not_mem_nil, .nil⟩, fun u mu t mt => ?_⟩
      have et : t = pr := by simpa using mt
      exact fun e => np (by have mu' := mu; rw [e, et] at mu'; exact mu')
  · have lp := wf.lp
    rcases h with rfl | ⟨v, _, _, rfl⟩
    · omega
    · rw [List.length_append]
      show _ + 1 ≤ 200
      omega
  · intro q hq
    rcases h with rfl | ⟨v, v1, v2, rfl⟩
    · exact wf.rp q (sub q hq)
    · rcases List.mem_append.mp hq with hq | hq
      · exact wf.rp q (sub q hq)
      · have : q = (pr, v) := by simpa using hq
        subst this
        obtain ⟨a1, a2, a3, a4, a5⟩ := wf.rp _ hm
        exact ⟨a1, a2, a3, v1, by omega⟩
/-- one brim more by one -/
def bumped (B : Br) (z : Str) : Br := B.map fun p => if p.1 = z then (p.1, p.2 + 1) else p
theorem nms_bumped (B : Br) (z : Str) : nms (bumped B z) = nms B := by
  unfold nms bumped
  rw [List.map_map]
  refine List.map_congr_left fun p _ => ?_
  show (if p.1 = z then (p.1, p.2 + 1) else p).1 = p.1
  split <;> rfl
theorem Good.bump {B : Br} {P : Pi} {z : Str} (g : Good B P) (h : val0 B z < 60) : Good (bumped B z) P := by
  have wf := g.wf
  have ge : ∀ p ∈ B, ∃ q ∈ bumped B z, q.1 = p.1 ∧ p.2 ≤ q.2 := fun p hp => by
    refine ⟨_, List.mem_map.mpr ⟨p, hp, rfl⟩, ?_, ?_⟩
    · show (if p.1 = z then (p.1, p.2 + 1) else p).1 = p.1
      split <;> rfl
    · show p.2 ≤ (if p.1 = z then (p.1, p.2 + 1) else p).2
      split
      · show p.2 ≤ p.2 + 1; omega
      · exact Int.le_refl _
  have opn : ∀ x, Opn B P x → Opn (bumped B z) P x := fun x hx => by
    induction hx with
    | @soak x b h1 h2 =>
      obtain ⟨q, hq, e, le⟩ := ge _ h1
      exact .soak (b := q.2) (by rw [← (show q.1 = x from e)]; exact hq) (by have : b ≤ q.2 := le; omega)
    | step h1 _ ih => exact .step h1 ih
  refine ⟨⟨by rw [nms_bumped]; exact wf.nb, by unfold bumped; rw [List.length_map]; exact wf.lb, ?_, wf.np, wf.lp, fun p hp => by rw [nms_bumped]; exact wf.rp p hp⟩, ?_, fun x hx => opn x (g.op x (by rw [nms_bumped] at hx; exact hx))⟩
  · intro q hq
    obtain ⟨p, hp, rfl⟩ := List.mem_map.mp hq
    obtain ⟨a, b, c⟩ := wf.rb p hp
    split
    · rename_i e
      refine ⟨a, by show 1 ≤ p.2 + 1; omega, ?_⟩
      have := val0_of_mem wf.nb (show (p.1, p.2) ∈ B from hp)
      rw [e] at this
      show p.2 + 1 ≤ 60
      omega
    · exact ⟨a, b, c⟩
  · intro q hq
    obtain ⟨p, hp, rfl⟩ := List.mem_map.mp hq
    obtain ⟨a, b⟩ := g.fit p hp
    split
    · exact ⟨by show outW P p.1 ≤ p.2 + 1; omega, by show inW P p.1 ≤ p.2 + 1; omega⟩
    · exact ⟨a, b⟩
end Nl
end
section
set_option maxHeartbeats 4000000
namespace Nl
open PySem PySem.Spec PyProof.Rows L2 Nt
theorem valV_perm {κ : Type} [DecidableEq κ] {ks ls : List (κ × V)} (n1 : (ks.map Prod.fst).Nodup) (h : ks.Perm ls) (k : κ) : valV ks k = valV ls k :=
  sameD_true n1 ((h.map Prod.fst).nodup_iff.mp n1) (sameD_perm n1 h) k
def Dif (B : Br) (Pp : Pi) (U W : Br) (B2 : Br) (P2 : Pi) (U2 W2 : Br) : Prop :=
  (∃ k, valV (bk B) k ≠ valV (bk B2) k) ∨ (∃ k, valV (pt Pp) k ≠ valV (pt P2) k) ∨ (∃ k, valV (bk U) k ≠ valV (bk U2) k) ∨ (∃ k, valV (bk W) k ≠ valV (bk W2) k)
theorem Dif.symm {B Pp U W B2 P2 U2 W2} (h : Dif B Pp U W B2 P2 U2 W2) : Dif B2 P2 U2 W2 B Pp U W :=
  h.imp (fun ⟨k, e⟩ => ⟨k, Ne.symm e⟩) (Or.imp (fun ⟨k, e⟩ => ⟨k, Ne.symm e⟩) (Or.imp (fun ⟨k, e⟩ => ⟨k, Ne.symm e⟩) fun ⟨k, e⟩ => ⟨k, Ne.symm e⟩))
theorem Dif.st {B : Br} {Pp : Pi} {U W B2 : Br} {P2 : Pi} {U2 W2 : Br} (h : Dif B Pp U W B2 P2 U2 W2) (n1 : (nms B).Nodup) (n2 : (Pp.map Prod.fst).Nodup) (n3 : (nms U).Nodup) (n4 : (nms W).Nodup)
    (m1 : (nms B2).Nodup) (m2 : (P2.map Prod.fst).Nodup) (m3 : (nms U2).Nodup) (m4 : (nms W2).Nodup) : stSame B Pp U W B2 P2 U2 W2 = false := by
  unfold stSame netSame
  rcases h with ⟨k, e⟩ | ⟨k, e⟩ | ⟨k, e⟩ | ⟨k, e⟩
  · rw [sameD_dif (bk_nd n1) (bk_nd m1) k e]; simp
  · rw [sameD_dif (pt_nd n2) (pt_nd m2) k e]; simp
  · rw [sameD_dif (bk_nd n3) (bk_nd m3) k e]; simp
  · rw [sameD_dif (bk_nd n4) (bk_nd m4) k e]; simp
theorem fill_val {B Qd : Br} {z : Str} (nd : (nms B).Nodup) (h : z ∈ nms B) : valV (bk (fill B Qd)) (Sum.inr z : Key) = some (.int (val0 Qd z)) := by
  rw [valV_bk]
  unfold fill
  rw [getB_map nd h]; rfl
/-- another stand than the one told -/
def OthS (CS C : Addr) (H : Hp) (B : Br) (Pp : Pi) (Qf Qo : Br) (s : Addr) : Prop := ∃ (B' : Br) (P' : Pi) (U W : Br), StandAt CS C H s B' P' U W ∧
  ∀ B1 P1, B1.Perm B → P1.Perm Pp → stSame B1 P1 (fill B1 Qf) (fill B1 Qo) B' P' U W = false ∧ stSame B' P' U W B1 P1 (fill B1 Qf) (fill B1 Qo) = false
theorem OthS.same {CS C : Addr} {H H' : Hp} {B : Br} {Pp : Pi} {Qf Qo : Br} {s : Addr} (h : OthS CS C H B Pp Qf Qo s) (sm : Same H H') : OthS CS C H' B Pp Qf Qo s := by
  obtain ⟨B', P', U, W, S, h⟩ := h
  exact ⟨B', P', U, W, S.same sm, h⟩
theorem oth_of {CS C : Addr} {H : Hp} {s : Addr} {B : Br} {Pp : Pi} {Qf Qo B2 : Br} {P2 : Pi} {Q2 O2 B' : Br} {P' : Pi} (good : Good B Pp) (g2 : Good B2 P2) (pB : B'.Perm B2) (pP : P'.Perm P2) (S : StandAt CS C H s B' P' (fill B' Q2) (fill B' O2))
    (dif : (∃ k, valV (bk B) k ≠ valV (bk B2) k) ∨ (∃ k, valV (pt Pp) k ≠ valV (pt P2) k) ∨ (∃ z, z ∈ nms B ∧ z ∈ nms B2 ∧ val0 Qf z ≠ val0 Q2 z) ∨ (∃ z, z ∈ nms B ∧ z ∈ nms B2 ∧ val0 Qo z ≠ val0 O2 z)) : OthS CS C H B Pp Qf Qo s := by
  refine ⟨B', P', _, _, S, fun B1 P1 pB1 pP1 => ?_⟩
  have g1 := good.perm pB1.symm pP1.symm
  have g' := g2.perm pB.symm pP.symm
  have n1 := g1.wf.nb
  have n2 := g'.wf.nb
  have f1 : ∀ Q : Br, (nms (fill B1 Q)).Nodup := fun Q => by rw [fill_nms]; exact n1
  have f2 : ∀ Q : Br, (nms (fill B' Q)).Nodup := fun Q => by rw [fill_nms]; exact n2
  have m1 : ∀ {z : Str}, z ∈ nms B → z ∈ nms B1 := fun h => (pB1.map Prod.fst).mem_iff.mpr h
  have m2 : ∀ {z : Str}, z ∈ nms B2 → z ∈ nms B' := fun h => (pB.map Prod.fst).mem_iff.mpr h
  have d : Dif B1 P1 (fill B1 Qf) (fill B1 Qo) B' P' (fill B' Q2) (fill B' O2) := by
    rcases dif with ⟨k, e⟩ | ⟨k, e⟩ | ⟨z, z1, z2, e⟩ | ⟨z, z1, z2, e⟩
    · exact .inl ⟨k, by rw [valV_perm (bk_nd n1) (pB1.map _) k, valV_perm (bk_nd n2) (pB.map _) k]; exact e⟩
    · exact .inr (.inl ⟨k, by rw [valV_perm (pt_nd g1.wf.np) (pP1.map _) k, valV_perm (pt_nd g'.wf.np) (pP.map _) k]; exact e⟩)
    · exact .inr (.inr (.inl ⟨Sum.inr z, by rw [fill_val n1 (m1 z1), fill_val n2 (m2 z2)]; exact fun h => e (V.int.inj (Option.some.inj h))⟩))
    · exact .inr (.inr (.inr ⟨Sum.inr z, by rw [fill_val n1 (m1 z1), fill_val n2 (m2 z2)]; exact fun h => e (V.int.inj (Option.some.inj h))⟩))
  exact ⟨d.st n1 g1.wf.np (f1 _) (f1 _) n2 g'.wf.np (f2 _) (f2 _), d.symm.st n2 g'.wf.np (f2 _) (f2 _) n1 g1.wf.np (f1 _) (f1 _)⟩
theorem putB_bumped {B : Br} {z : Str} (nd : (nms B).Nodup) (h : z ∈ nms B) : putB B z (val0 B z + 1) = bumped B z := by
  unfold putB bumped
  rw [if_pos h]
  refine List.map_congr_left fun p hp => ?_
  by_cases c : p.1 = z
  · rw [if_pos c, if_pos c]
    have := val0_of_mem nd (show (p.1, p.2) ∈ B from hp)
    rw [c] at this
    rw [this]
  · rw [if_neg c, if_neg c]
theorem Good.newPond {B : Br} {P : Pi} {z : Str} (g : Good B P) (h : z ∉ nms B) (n : Nm z) (l : B.length < 12) : Good (B ++ [(z, 1)]) P := by
  have wf := g.wf
  have sub : ∀ {x : Str}, x ∈ nms B → x ∈ nms (B ++ [(z, 1)]) := fun h => by rw [nms_append]; exact List.mem_append_left _ h
  have zero : ∀ (f : (Str × Str) × Int → Bool), (∀ q ∈ P, f q = false) → sumOf f P = 0 := fun f hf => by
    unfold sumOf
    rw [List.filter_eq_nil_iff.mpr fun q hq => by rw [hf q hq]; simp]; rfl
  have o0 : outW P z = 0 := zero _ fun q hq => decide_eq_false fun e => h (by rw [← e]; exact (wf.rp q hq).1)
  have i0 : inW P z = 0 := zero _ fun q hq => decide_eq_false fun e => h (by rw [← e]; exact (wf.rp q hq).2.1)
  have opn : ∀ x, Opn B P x → Opn (B ++ [(z, 1)]) P x := fun x hx => by
    induction hx with
    | soak h1 h2 => exact .soak (List.mem_append_left _ h1) h2
    | step h1 _ ih => exact .step h1 ih
  refine ⟨⟨?_, by rw [List.length_append]; show _ + 1 ≤ 12; omega, ?_, wf.np, wf.lp, fun q hq => ?_⟩, ?_, ?_⟩
  · rw [nms_append]
    refine List.nodup_append.mpr ⟨wf.nb, List.nodup_cons.mpr ⟨List.not_mem_nil, .nil⟩, fun u mu t mt => ?_⟩
    have et : t = z := by simpa [nms] using mt
    exact fun e => h (by rw [← et, ← e]; exact mu)
  · intro p hp
    rcases List.mem_append.mp hp with hp | hp
    · exact wf.rb p hp
    · rw [List.mem_singleton.mp hp]; exact ⟨n, Int.le_refl _, show (1 : Int) ≤ 60 by decide⟩
  · obtain ⟨a, b, c⟩ := wf.rp q hq
    exact ⟨sub a, sub b, c⟩
  · intro p hp
    rcases List.mem_append.mp hp with hp | hp
    · exact g.fit p hp
    · rw [List.mem_singleton.mp hp]
      show outW P z ≤ 1 ∧ inW P z ≤ 1
      rw [o0, i0]; decide
  · intro x hx
    rw [nms_append] at hx
    rcases List.mem_append.mp hx with hx | hx
    · exact opn x (g.op x hx)
    · have : x = z := by simpa [nms] using hx
      subst this
      exact .soak (b := 1) (List.mem_append_right _ (List.mem_singleton.mpr rfl)) (by rw [o0]; decide)
/-- what a stand has nothing in common with -/
def OffS (CS C : Addr) (H : Hp) (s a : Addr) : Prop := ∃ dx n d1 d2, H s = some (.ins CS dx (sf n d1 d2)) ∧ a ≠ d1 ∧ a ≠ d2 ∧ NOff C H n a
theorem OffS.same {CS C : Addr} {H H' : Hp} {s a : Addr} (h : OffS CS C H s a) (sm : Same H H') : OffS CS C H' s a := by
  obtain ⟨dx, n, d1, d2, hs, n1, n2, h⟩ := h
  exact ⟨dx, n, d1, d2, sm _ _ hs, n1, n2, h.same sm⟩
theorem putF_inj {n d1 d2 n' d1' d2' : Addr} (h : sf n d1 d2 = sf n' d1' d2') : n = n' ∧ d1 = d1' ∧ d2 = d2' := by
  have h1 := congrArg (fun l => l.lookup ("own_net" : Str)) h
  have h2 := congrArg (fun l => l.lookup ("poured_by_pond" : Str)) h
  have h3 := congrArg (fun l => l.lookup ("count_by_pond" : Str)) h
  simp only [sf_n, sf_p, sf_c] at h1 h2 h3
  exact ⟨V.ref.inj (Option.some.inj h1), V.ref.inj (Option.some.inj h2), V.ref.inj (Option.some.inj h3)⟩
theorem nfS_inj {d1 e1 : Addr} {d2 e2 : Dd} (h : nf d1 d2 = nf e1 e2) : d1 = e1 ∧ d2 = e2 := by
  have h1 := congrArg (fun l => l.lookup ("brim_by_pond" : Str)) h
  have h2 := congrArg (fun l => l.lookup ("width_by_pair" : Str)) h
  have h3 := congrArg (fun l => l.lookup ("outs_by_pond" : Str)) h
  have h4 := congrArg (fun l => l.lookup ("ins_by_pond" : Str)) h
  simp only [nf_b, nf_w, nf_o, nf_i] at h1 h2 h3 h4
  obtain ⟨a1, a2, a3⟩ := d2
  obtain ⟨b1, b2, b3⟩ := e2
  have x1 := V.ref.inj (Option.some.inj h1)
  have x2 := V.ref.inj (Option.some.inj h2)
  have x3 := V.ref.inj (Option.some.inj h3)
  have x4 := V.ref.inj (Option.some.inj h4)
  dsimp only at x2 x3 x4
  subst x1 x2 x3 x4
  exact ⟨rfl, rfl⟩
/-- all stays but one dict -/
def KD (a : Addr) (H H' : Hp) : Prop := (∃ ks, H a = some (.dK ks)) ∨ (∃ ks, H a = some (.dT ks)) → ∀ b o, H b = some o → b ≠ a → H' b = some o
theorem NetAt.off {C n a : Addr} {H H' : Hp} {B : Br} {Pp : Pi} (N : NetAt C H n B Pp) (o : NOff C H n a) (da : (∃ ks, H a = some (.dK ks)) ∨ ∃ ks, H a = some (.dT ks)) (k : ∀ b o, H b = some o → b ≠ a → H' b = some o) : NetAt C H' n B Pp := by
  obtain ⟨dx, d1, d2, hn, h1, h2, S1, S2⟩ := N.at_
  obtain ⟨dxn, e1, e2, hn', n1, n2, n3, n4⟩ := o
  rw [hn] at hn'
  injection (Option.some.inj hn') with _ _ ef
  obtain ⟨rfl, rfl⟩ := nfS_inj ef
  have no : ∀ {b : Addr} {o : HO}, H b = some o → (∀ ks, o ≠ .dK ks) → (∀ ks, o ≠ .dT ks) → b ≠ a := fun {b o} e x y z => by
    subst z
    rcases da with ⟨ks, hk⟩ | ⟨ks, hk⟩
    · rw [hk] at e; exact x _ (Option.some.inj e).symm
    · rw [hk] at e; exact y _ (Option.some.inj e).symm
  have sd : ∀ {d : Addr} {g : Str → List (Str × Int)} {l : List Str}, a ≠ d → SideAt H d g l → SideAt H' d g l := fun {d g l} nd S =>
    S.keep (fun x e => k _ _ e (Ne.symm nd)) (fun b oq xs e => k _ _ e (no e (fun v e => by cases e) (fun v e => by cases e))) (fun b xs e => k _ _ e (no e (fun v e => by cases e) (fun v e => by cases e)))
  exact ⟨dx, d1, d2, k _ _ hn (no hn (fun v e => by cases e) (fun v e => by cases e)), k _ _ h1 (Ne.symm n1), k _ _ h2 (Ne.symm n2), sd n3 S1, sd n4 S2⟩
theorem NOff.off {C n a u : Addr} {H H' : Hp} (h : NOff C H n u) (da : (∃ ks, H a = some (.dK ks)) ∨ ∃ ks, H a = some (.dT ks)) (k : ∀ b o, H b = some o → b ≠ a → H' b = some o) : NOff C H' n u := by
  obtain ⟨dxn, e1, e2, hn, r⟩ := h
  refine ⟨dxn, e1, e2, k _ _ hn (fun z => ?_), r⟩
  subst z
  rcases da with ⟨ks, hk⟩ | ⟨ks, hk⟩
  · rw [hk] at hn; cases hn
  · rw [hk] at hn; cases hn
theorem StandAt.off {CS C s a : Addr} {H H' : Hp} {B : Br} {Pp : Pi} {U W : Br} (S : StandAt CS C H s B Pp U W) (o : OffS CS C H s a) (da : (∃ ks, H a = some (.dK ks)) ∨ ∃ ks, H a = some (.dT ks)) (k : ∀ b o, H b = some o → b ≠ a → H' b = some o) : StandAt CS C H' s B Pp U W := by
  obtain ⟨dx, n, d1, d2, hs, N, h1, h2⟩ := S.at_
  obtain ⟨dx', n', d1', d2', hs', n1, n2, no⟩ := o
  rw [hs] at hs'
  injection (Option.some.inj hs') with _ _ ef
  obtain ⟨rfl, rfl, rfl⟩ := putF_inj ef
  refine ⟨dx, n, d1, d2, k _ _ hs (fun z => ?_), N.off no da k, k _ _ h1 (Ne.symm n1), k _ _ h2 (Ne.symm n2)⟩
  subst z
  rcases da with ⟨ks, hk⟩ | ⟨ks, hk⟩
  · rw [hk] at hs; cases hs
  · rw [hk] at hs; cases hs
theorem OffS.off {CS C s a u : Addr} {H H' : Hp} (h : OffS CS C H s u) (da : (∃ ks, H a = some (.dK ks)) ∨ ∃ ks, H a = some (.dT ks)) (k : ∀ b o, H b = some o → b ≠ a → H' b = some o) : OffS CS C H' s u := by
  obtain ⟨dx, n, d1, d2, hs, n1, n2, no⟩ := h
  refine ⟨dx, n, d1, d2, k _ _ hs (fun z => ?_), n1, n2, no.off da k⟩
  subst z
  rcases da with ⟨ks, hk⟩ | ⟨ks, hk⟩
  · rw [hk] at hs; cases hs
  · rw [hk] at hs; cases hs
theorem StandAt.nl {CS C s : Addr} {H H' : Hp} {B : Br} {Pp : Pi} {Qp Qc : Br} (k : NL H H') (h : StandAt CS C H s B Pp Qp Qc) : StandAt CS C H' s B Pp Qp Qc := by
  obtain ⟨dx, n, d1, d2, a, b, c, d⟩ := h
  exact ⟨dx, n, d1, d2, k _ _ a (fun l e => by cases e), b.nl k, k _ _ c (fun l e => by cases e), k _ _ d (fun l e => by cases e)⟩
theorem OthS.nl {CS C : Addr} {H H' : Hp} {B : Br} {Pp : Pi} {Qf Qo : Br} {s : Addr} (h : OthS CS C H B Pp Qf Qo s) (k : NL H H') : OthS CS C H' B Pp Qf Qo s := by
  obtain ⟨B', P', U, W, S, h⟩ := h
  exact ⟨B', P', U, W, S.nl k, h⟩
theorem OthS.off {CS C s a : Addr} {H H' : Hp} {B : Br} {Pp : Pi} {Qf Qo : Br} (S : OthS CS C H B Pp Qf Qo s) (o : OffS CS C H s a) (da : (∃ ks, H a = some (.dK ks)) ∨ ∃ ks, H a = some (.dT ks)) (k : ∀ b o, H b = some o → b ≠ a → H' b = some o) : OthS CS C H' B Pp Qf Qo s := by
  obtain ⟨B', P', U, W, S, h⟩ := S
  exact ⟨B', P', U, W, S.off o da k, h⟩
/-- Stand(net, poured, counts), the net made -/
theorem st_mk {CS C n c d : Addr} {H : Hp} {B' : Br} {P' : Pi} {Qp Qc : Br} {Q : Addr → Hp → Prop} {E : XK} (N : NetAt C H n B' P') (g' : Good B' P') (hc : H c = some (.dK (bk Qp))) (hd : H d = some (.dK (bk Qc)))
    (ndp : (nms Qp).Nodup) (okp : ∀ y ∈ Qp, y.1 ∈ nms B' ∧ 0 ≤ y.2) (ndc : (nms Qc).Nodup) (okc : ∀ y ∈ Qc, y.1 ∈ nms B' ∧ 0 ≤ y.2)
    (q : ∀ (s : Addr) (H' : Hp), Same H H' → H s = none → StandAt CS C H' s B' P' (fill B' Qp) (fill B' Qc) → (∀ u o, H u = some o → NOff C H n u → OffS CS C H' s u) → Q s H') :
    ∀ x dx, H x = none → H dx = none → dx ≠ x → spSInit CS C [.ref x, .ref n, .ref c, .ref d] (upd (upd H dx (.own x)) x (.ins CS dx [])) (fun v H2 => v = .non ∧ Q x H2) E := by
  intro x2 dx2 nx2 ndx2 nex2
  have lB := g'.wf.lb
  have len : ∀ {Qd : Br}, (nms Qd).Nodup → (∀ y ∈ Qd, y.1 ∈ nms B' ∧ 0 ≤ y.2) → Qd.length ≤ 12 := fun {Qd} h1 h2 => by
    have := len_le_of_sub h1 (m := nms B') fun y hy => by
      obtain ⟨u, hu', e⟩ := List.mem_map.mp hy
      rw [← (show u.1 = y from e)]; exact (h2 u hu').1
    rw [nms_len, nms_len] at this
    omega
  have lp := len ndp okp
  have lc := len ndc okc
  have s9 : Same H (upd (upd H dx2 (.own x2)) x2 (.ins CS dx2 [])) := fun y o e => by
    rw [upd_ne (ne_of_none e nx2), upd_ne (ne_of_none e ndx2)]; exact e
  refine ⟨x2, dx2, n, .ref c, .ref d, B', P', Qp, Qc, rfl, upd_same, N.same s9, g', ⟨.inr ⟨c, rfl, s9 c _ hc⟩, ndp, by omega, okp⟩, ⟨.inr ⟨d, rfl, s9 d _ hd⟩, ndc, by omega, okc⟩, fun H9 SA W9 kp9 => ⟨rfl, ?_⟩⟩
  have s19 : Same H H9 := fun y o e => kp9 y o (s9 y o e) (ne_of_none e nx2)
  refine q x2 H9 s19 nx2 SA fun u o hu no => ?_
  obtain ⟨dx9, q1, q2, w9, ng1, ng2⟩ := W9
  exact ⟨dx9, n, q1, q2, w9, ne_of_none (s9 u _ hu) ng1, ne_of_none (s9 u _ hu) ng2, no.same s19⟩
theorem putB_el {Qd : Br} {z : Str} {v : Int} {B : Br} (ok : ∀ y ∈ Qd, y.1 ∈ nms B ∧ 0 ≤ y.2) (hz : z ∈ nms B) (hv : 0 ≤ v) : ∀ y ∈ putB Qd z v, y.1 ∈ nms B ∧ 0 ≤ y.2 := by
  intro y hy
  unfold putB at hy
  by_cases c : z ∈ nms Qd
  · rw [if_pos c] at hy
    obtain ⟨p, hp, rfl⟩ := List.mem_map.mp hy
    by_cases e : p.1 = z
    · rw [if_pos e]; exact ⟨(ok p hp).1, hv⟩
    · rw [if_neg e]; exact ok p hp
  · rw [if_neg c] at hy
    rcases List.mem_append.mp hy with h | h
    · exact ok y h
    · rw [List.mem_singleton.mp h]; exact ⟨hz, hv⟩
theorem eqv_pair (p q : Str × Str) : PyData.eqv (.tuple [.str p.1, .str p.2]) (.tuple [.str q.1, .str q.2]) = decide (p = q) := by
  obtain ⟨a, b⟩ := p
  obtain ⟨c, d⟩ := q
  simp [PyData.eqv, PyData.eqvAll, Bool.beq_eq_decide_eq]
theorem shaped_pair {n : Nat} {p : Str × Str} (h1 : Sm n p.1) (h2 : Sm n p.2) : SeqAt.shaped (.tuple [.str p.1, .str p.2]) = true := by simp [h1.strOk, h2.strOk, SeqAt.shaped, PyData.canLay0, PyData.canLayAll0, PyData.depth, PyData.depthAll]
theorem dp_pair {K : PySem.W.Frag} {H : Hp} {t : Addr} {p : Str × Str} (h : H t = some (.tup [.str p.1, .str p.2])) : Dp K H (.ref t) (.tuple [.str p.1, .str p.2]) := .tup (SqT.of h) (.cons (.str _) (.cons (.str _) .nil))
/-- [(pair, joins[pair]) for pair in joins if pair != two] -/
theorem fewer_ok {K : PySem.W.Frag} {Pp : Pi} {a tw : Addr} {pr : Str × Str} {H : Hp} {σ : L2.St} {jp jv jn : Nat} {Q : V → Hp → Prop} (nd : (Pp.map Prod.fst).Nodup) (lp : Pp.length ≤ 200) (sml : ∀ p ∈ Pp, Sm 8 p.1.1 ∧ Sm 8 p.1.2) (smr : Sm 8 pr.1 ∧ Sm 8 pr.2) (ha : H a = some (.dT (pt Pp))) (ht : H tw = some (.tup [.str pr.1, .str pr.2])) (hjp : σ[jp]? = some (some (.ref a)))
    (hv : ∀ q : Addr, ((wipe σ [jv]).set jv (some (.ref q)))[jv]? = some (some (V.ref q))) (hn : ∀ q : Addr, ((wipe σ [jv]).set jv (some (.ref q)))[jn]? = some (some (V.ref tw))) (hp2 : ∀ q : Addr, ((wipe σ [jv]).set jv (some (.ref q)))[jp]? = some (some (V.ref a)))
    (hw : ∀ q : Addr, wipe ((wipe σ [jv]).set jv (some (.ref q))) [jv] = wipe σ [jv])
    (q : ∀ D as H', Same H H' → H D = none → H' D = some (.lst (as.map V.ref)) → TrisAt H' as (sans pr Pp) → Q (.ref D) H') :
    tLockE (tLc (iKeys (tVar jp)) (gName jv) (tTest (tOp (rNeD K) (tVar jv) (tVar jn))) (tTup (tCons (tVar jv) (tCons (tDGet (tVar jp) (tVar jv)) tNil))) [jv]) σ H Q := by
  refine ⟨a, _, ha, trivial, fun od => ?_⟩
  refine ⟨.ref a, hjp, a, od, rfl, .inr ⟨_, upd_same, fun D nD => ?_⟩⟩
  have hD0 : D ≠ a := fun e => by subst e; rw [upd_same] at nD; cases nD
  have nDH : H D = none := by rw [upd_ne hD0] at nD; exact nD
  have hta : tw ≠ a := fun e => by subst e; rw [ha] at ht; cases ht
  refine lc_it (n := (pt Pp).length) walk_keysT (fun i H1 => ∃ as, H1 D = some (.lst (as.map V.ref)) ∧ TrisAt H1 as (sans pr (Pp.take i)) ∧ Same (upd H a (.frz od (.dT (pt Pp)))) H1) ⟨[], upd_same, ⟨rfl, fun i p e => by simp [sans] at e⟩, same_new nD⟩ (fun i H1 _ ⟨_, _, _, h⟩ => h a _ upd_same) ?_ ?_
  · rintro i x H0 H1 hi ⟨as, hD, tri, sm⟩ ⟨e0, kk, v, qq, hkv, rfl, hq⟩
    subst e0
    obtain ⟨p, hp, rfl, rfl⟩ := pt_at hkv
    have hm : p ∈ Pp := List.mem_of_getElem? hp
    have htw : H1 tw = some (.tup [.str pr.1, .str pr.2]) := sm tw _ (by rw [upd_ne hta]; exact ht)
    have hq' : H1 qq = some (.tup [.str p.1.1, .str p.1.2]) := hq
    have la : as.length ≤ 200 := by
      rw [tri.1]
      unfold sans
      refine Nat.le_trans (List.length_filter_le _ _) ?_
      rw [List.length_take]; omega
    have tk : ∀ b : Bool, decide (p.1 ≠ pr) = b → sans pr (Pp.take (i + 1)) = sans pr (Pp.take i) ++ (if b = true then [p] else []) := fun b hb => by
      unfold sans
      rw [List.take_add_one, hp, List.filter_append]
      show _ ++ List.filter _ [p] = _
      rw [List.filter_cons, hb]; cases b <;> rfl
    refine ⟨hw qq, .ref qq, hv qq, .ref tw, hn qq, _, _, dp_pair hq', dp_pair htw, shaped_pair (sml p hm).1 (sml p hm).2, shaped_pair smr.1 smr.2, _, rfl, ?_⟩
    rw [eqv_pair]
    by_cases e : p.1 = pr
    · rw [decide_eq_true e]
      refine iteF ⟨as, hD, ?_, sm⟩
      rw [tk false (decide_eq_false (by simpa using e)), if_neg (by decide), List.append_nil]
      exact tri
    · rw [decide_eq_false e]
      refine iteT ?_
      refine ⟨.ref qq, hv qq, ?_⟩
      refine width_at nd hm sm hq' (hp2 qq) (hv qq) ?_
      refine ⟨line1000 (by show 2 ≤ 1000; decide), fun t nt => ?_⟩
      have nDt : D ≠ t := ne_of_none hD nt
      have nqt : qq ≠ t := ne_of_none hq' nt
      have nqD : qq ≠ D := fun z => by subst z; rw [hD] at hq'; cases hq'
      refine ⟨_, (by rw [upd_ne nDt]; exact hD), (by rw [List.length_map]; exact small1000 (by omega)), as ++ [t], ?_, ?_, ?_⟩
      · rw [upd_same, List.map_append]; rfl
      · rw [tk true (decide_eq_true e), if_pos rfl]
        refine TrisAt.push (tri.same fun b xs eb => ?_) (q := qq) (by rw [upd_ne (Ne.symm nDt), upd_same]) (by rw [upd_ne nqD, upd_ne nqt]; exact hq')
        have nb : b ≠ D := fun z => by subst z; rw [hD] at eb; cases eb
        rw [upd_ne nb, upd_ne (ne_of_none eb nt)]; exact eb
      · exact fun b o eb => by
          have nb : b ≠ D := ne_of_none eb nD
          have e1 := sm b o eb
          rw [upd_ne nb, upd_ne (ne_of_none e1 nt)]; exact e1
  · rintro H1 ⟨as, hD, tri, sm⟩
    obtain ⟨l1, l2⟩ := same_lock ha sm
    refine ⟨l1, q D as _ l2 nDH ?_ ?_⟩
    · rw [upd_ne hD0]; exact hD
    · rw [List.take_of_length_le (by unfold pt; rw [List.length_map]; exact Nat.le_refl _)] at tri
      refine tri.same fun b xs eb => ?_
      have nb : b ≠ a := fun z => by subst z; rw [l1] at eb; cases eb
      rw [upd_ne nb]; exact eb
theorem bumped_dif {B : Br} {z : Str} (nd : (nms B).Nodup) (h : z ∈ nms B) : valV (bk B) (Sum.inr z : Key) ≠ valV (bk (bumped B z)) (Sum.inr z : Key) := by
  rw [valV_bk, valV_bk]
  obtain ⟨c, hc⟩ := getB_some h
  obtain ⟨d, hd⟩ := getB_some (show z ∈ nms (bumped B z) by rw [nms_bumped]; exact h)
  rw [hc, hd]
  intro e
  have e1 : c = d := by simpa using e
  have h1 : val0 B z = c := by unfold val0; rw [hc]; rfl
  have h2 : val0 (bumped B z) z = d := by unfold val0; rw [hd]; rfl
  rw [← putB_bumped nd h, putB_val, if_pos rfl] at h2
  omega
/-- the other stands found so far -/
structure OI (CS C D : Addr) (B : Br) (Pp : Pi) (Qf Qo : Br) (H H2 : Hp) (ss : List Addr) : Prop where
  hD : H2 D = some (.lst (ss.map V.ref))
  al : ∀ s ∈ ss, OthS CS C H2 B Pp Qf Qo s
  kp : Kp D H H2
theorem OI.step {CS C D : Addr} {B : Br} {Pp : Pi} {Qf Qo : Br} {H H2 H5 : Hp} {ss : List Addr} {s5 : Addr} (h : OI CS C D B Pp Qf Qo H H2 ss) (sm : Same H2 H5) (o : OthS CS C H5 B Pp Qf Qo s5) : OI CS C D B Pp Qf Qo H (upd H5 D (.lst (ss.map V.ref ++ [V.ref s5]))) (ss ++ [s5]) := by
  have hD5 := sm _ _ h.hD
  have nl : NL H5 (upd H5 D (.lst (ss.map V.ref ++ [V.ref s5]))) := NL.lst hD5
  refine ⟨by rw [upd_same, List.map_append]; rfl, fun s hs => ?_, fun b u nb e => by rw [upd_ne nb]; exact sm _ _ (h.kp _ _ nb e)⟩
  rcases List.mem_append.mp hs with hs | hs
  · exact ((h.al s hs).same sm).nl nl
  · rw [List.mem_singleton.mp hs]; exact o.nl nl
theorem OthS.same' {CS C : Addr} {H H' : Hp} {B : Br} {Pp : Pi} {Qf Qo : Br} {s : Addr} (h : OthS CS C H B Pp Qf Qo s) (sm : Same H H') : OthS CS C H' B Pp Qf Qo s := h.same sm
theorem tr_el {X Y Qd : Br} (p : X.Perm Y) (h : ∀ y ∈ Qd, y.1 ∈ nms Y ∧ 0 ≤ y.2) : ∀ y ∈ Qd, y.1 ∈ nms X ∧ 0 ≤ y.2 := fun y hy => ⟨(p.map Prod.fst).mem_iff.mpr (h y hy).1, (h y hy).2⟩
theorem sans_not {pr : Str × Str} {P : Pi} : pr ∉ (sans pr P).map Prod.fst := fun hx => by
  obtain ⟨q, hq, e⟩ := List.mem_map.mp hx
  exact of_decide_eq_true (List.mem_filter.mp hq).2 e
theorem getP_sans {pr : Str × Str} {P : Pi} : getP (sans pr P) pr = none := getP_none sans_not
theorem OffS.nl {CS C : Addr} {H H' : Hp} {s a : Addr} (h : OffS CS C H s a) (k : NL H H') : OffS CS C H' s a := by
  obtain ⟨dx, n, d1, d2, hs, n1, n2, dxn, e1, e2, hn, r⟩ := h
  exact ⟨dx, n, d1, d2, k _ _ hs (fun l e => by cases e), n1, n2, dxn, e1, e2, k _ _ hn (fun l e => by cases e), r⟩
def newW : List Str := ["q", "qq", "qqq", "r", "rr", "s", "ss", "t", "tt", "u", "uu", "v"]
theorem newW_nm : ∀ z ∈ newW, Nm z := fun z hz => (List.all_eq_true.mp (show newW.all nameB = true by decide +kernel)) z hz
theorem newW_nd : newW.Nodup := by decide +kernel
theorem newW_has {B : Br} (l : B.length < 12) : ∃ z rest, newW.filter (fun z => decide (z ∉ nms B)) = z :: rest ∧ z ∈ newW ∧ z ∉ nms B := by
  cases h : newW.filter (fun z => decide (z ∉ nms B)) with
  | nil =>
    exfalso
    have h1 := List.filter_eq_nil_iff.mp h
    have h2 := len_le_of_sub newW_nd (m := nms B) fun x hx => Decidable.not_not.mp fun c => h1 x hx (decide_eq_true c)
    rw [nms_len] at h2
    have h3 : newW.length = 12 := rfl
    omega
  | cons z rest =>
    have hz : z ∈ newW.filter (fun z => decide (z ∉ nms B)) := by rw [h]; exact List.mem_cons_self
    obtain ⟨h1, h2⟩ := List.mem_filter.mp hz
    exact ⟨z, rest, rfl, h1, of_decide_eq_true h2⟩
theorem notin_eq {B : Br} {z : Str} : (!(valV (bk B) (Sum.inr z : Key)).isSome) = decide (z ∉ nms B) := by
  rw [valV_bk]
  by_cases c : z ∈ nms B
  · obtain ⟨v, hv⟩ := getB_some c
    rw [hv, decide_eq_false (fun h => h c)]; rfl
  · rw [getB_none c, decide_eq_true c]; rfl
def spOthers (CS C : Addr) : Sp := fun vs H Q _ => ∃ (a j fd o : Addr) (B : Br) (Pp : Pi) (Qf Qo : Br), vs = [.ref a, .ref j, .ref fd, .ref o] ∧ H a = some (.dK (bk B)) ∧ H j = some (.dT (pt Pp)) ∧ H fd = some (.dK (bk Qf)) ∧ H o = some (.dK (bk Qo)) ∧ Good B Pp ∧ Tbl B Qf ∧ Tbl B Qo ∧
  ∀ (H' : Hp) (r : Addr) (ss : List Addr), Same H H' → H r = none → H' r = some (.lst (ss.map V.ref)) → ss.length ≤ 600 → (∀ s ∈ ss, OthS CS C H' B Pp Qf Qo s) → Q (.ref r) H'
section
variable {P : Program} {w : World} {K : PySem.W.Frag} {mg : Str → Option Value} {base : Heap}
theorem scOthers : FnScope ["_law_wide", "_law_joins", "_law_fed", "_law_often", "_law_found", "_law_one", "_law_two", "_law_fewer", "_law_new", "_law_word", "_law_pair"] ["_law_wide", "_law_joins", "_law_fed", "_law_often"] (defScope s_law_others) := ⟨rfl, rfl, rfl, by decide +kernel, rfl, by decide +kernel, by decide +kernel⟩
theorem ok_others {f f_lmore C CS : Addr} {fd fd_lmore : FuncData} {dsNet2 : List Value} {dsStand3 : List Value} (F : Fun K "_law_others" "_law_others" s_law_others f fd) (T : TxN K mg C) (TS : TxS K mg CS)
    (MN : Mk K C f_nI) (G_nI : FnOk P w K mg base CX0 5 f_nI fd_nI ["self", "brims", "pipes"] (spNInit C))
    (b_n : Binds K fd_nI ["self", "brims", "pipes"] dsNet2) (v_n : Vals [] dsNet2)
    (F_lmore : Fun K "_law_more" "_law_more" sMore f_lmore fd_lmore) (G_lmore : FnOk P w K mg base CX0 1 f_lmore fd_lmore ["_law_given", "_law_one"] spLMore) (b_lmore : Binds K fd_lmore ["_law_given", "_law_one"] []) (g_lmore : mg "_law_more" = some (.ref f_lmore))
    (MS : Mk K CS f_sI) (G_sI : FnOk P w K mg base CX0 5 f_sI fd_sI ["self", "net", "poured", "counts"] (spSInit CS C))
    (b_s3 : Binds K fd_sI ["self", "net", "poured", "counts"] dsStand3) (v_s3 : Vals [] dsStand3)
    (x_dict : mg "dict" = none)
    (x_len : mg "len" = none)
    (x_sorted : mg "sorted" = none) : FnOk P w K mg base CX0 7 f fd ["_law_wide", "_law_joins", "_law_fed", "_law_often"] (spOthers CS C) := by
  refine F.ok scOthers (fun vs H Q E h => ?_) (fun cdv A outer s H vs Q E hr h => ?_)
  · obtain ⟨a, j, fd', o, B, Pp, Qf, Qo, rfl, _⟩ := h
    rfl
  · obtain ⟨a, j, fd', o, B, Pp, Qf, Qo, rfl, hA, hJ, hF, hO, good, tf, to_, q⟩ := h
    have hu := hu_of hr
    have hr1 := hr.mono (show 1 ≤ 6 by decide)
    refine ⟨_, (pss_cons (ps_set (i := 4) scOthers.nd rfl (by first | exact .inl rfl | exact .inr rfl) (pe_lst pa_nil))
      (pss_cons (ps_for PassesOwn.never rfl (pi_list (pe_callB (call_sortedD rfl) (by rfl) x_sorted (by decide +kernel) (pa_cons (pv 0) pa_nil))) (pg_name (i := 5) scOthers.nd rfl (by first | exact .inl rfl | exact .inr rfl))
        (pss_cons (ps_expr (pe_bm PySem.F.plainAttrs_list PySem.F.slot_list_append PySem.F.type_list_append mt_append (pv 4) (pa_cons (pe_make MS G_sI hr (by rfl) TS.mgC b_s3 v_s3 pass0 (pa_cons (pe_make MN G_nI hr (by rfl) T.mgC b_n v_n pass0 (pa_cons (pv 0) (pa_cons (pv 1) pa_nil))) (pa_cons (pe_call G_lmore hr1 (by rfl) g_lmore F_lmore.kp b_lmore .nil pass0 (pa_cons (pv 2) (pa_cons (pv 5) pa_nil))) (pa_cons (pv 3) pa_nil)))) pa_nil)))
        (pss_cons (ps_expr (pe_bm PySem.F.plainAttrs_list PySem.F.slot_list_append PySem.F.type_list_append mt_append (pv 4) (pa_cons (pe_make MS G_sI hr (by rfl) TS.mgC b_s3 v_s3 pass0 (pa_cons (pe_make MN G_nI hr (by rfl) T.mgC b_n v_n pass0 (pa_cons (pv 0) (pa_cons (pv 1) pa_nil))) (pa_cons (pv 2) (pa_cons (pe_call G_lmore hr1 (by rfl) g_lmore F_lmore.kp b_lmore .nil pass0 (pa_cons (pv 3) (pa_cons (pv 5) pa_nil))) pa_nil)))) pa_nil)))
        (pss_one (ps_if (pt_cmpR op_lt (pe_dget hu (pv 0) (pv 5) (fun _ _ => rfl)) pe_int (nomark _)) (pss_one (ps_expr (pe_bm PySem.F.plainAttrs_list PySem.F.slot_list_append PySem.F.type_list_append mt_append (pv 4) (pa_cons (pe_make MS G_sI hr (by rfl) TS.mgC b_s3 v_s3 pass0 (pa_cons (pe_make MN G_nI hr (by rfl) T.mgC b_n v_n pass0 (pa_cons (pe_call G_lmore hr1 (by rfl) g_lmore F_lmore.kp b_lmore .nil pass0 (pa_cons (pv 0) (pa_cons (pv 5) pa_nil))) (pa_cons (pv 1) pa_nil))) (pa_cons (pv 2) (pa_cons (pv 3) pa_nil)))) pa_nil)))) pss_nil)))))
      (pss_cons (ps_for PassesOwn.never rfl (pi_list (pe_slice sl_list (pe_callB (Rl.call_sortD rfl) (by rfl) x_sorted (by decide +kernel) (pa_cons (pv 1) pa_nil)) po_none (po_some pe_int))) (pg_name (i := 6) scOthers.nd rfl (by first | exact .inl rfl | exact .inr rfl))
        (pss_cons (ps_set (i := 7) scOthers.nd rfl (by first | exact .inl rfl | exact .inr rfl) (pe_callTy (Rl.call_dictTP rfl (Nat.lt_of_le_of_lt (Nat.add_le_add_left (by decide) _) hr.units)) (by rfl) x_dict (by decide +kernel) (pa_cons (pe_lock (pe_lc (own := [("_law_pair", 10)]) (g := gName 10) (tt := (tTest (tOp (rNeD K) (tVar 10) (tVar 6)))) (te := (tTup (tCons (tVar 10) (tCons (tDGet (tVar 1) (tVar 10)) tNil)))) rfl scOthers.nd (pi_keys (pv 1)) (blkOk_by (N := ["_law_wide", "_law_joins", "_law_fed", "_law_often", "_law_found", "_law_one", "_law_two", "_law_fewer", "_law_new", "_law_word", "_law_pair"]) (sc := defScope s_law_others) (by decide +kernel)) (fun _ _ _ _ _ => (pg_name (i := 10) scOthers.nd rfl (Or.inl rfl))) (fun _ _ _ _ _ => pts_one (pt_cmpR (op_neD (Nat.lt_of_le_of_lt (Nat.le_refl _) hr.units)) (pv 10) (pv 6) (nomark _))) (fun _ _ _ _ _ => (pe_tup (pa_cons (pv 10) (pa_cons (pe_dget hu (pv 1) (pv 10) (fun _ _ => rfl)) pa_nil)))))) pa_nil)))
        (pss_cons (ps_expr (pe_bm PySem.F.plainAttrs_list PySem.F.slot_list_append PySem.F.type_list_append mt_append (pv 4) (pa_cons (pe_make MS G_sI hr (by rfl) TS.mgC b_s3 v_s3 pass0 (pa_cons (pe_make MN G_nI hr (by rfl) T.mgC b_n v_n pass0 (pa_cons (pv 0) (pa_cons (pv 7) pa_nil))) (pa_cons (pv 2) (pa_cons (pv 3) pa_nil)))) pa_nil)))
        (pss_one (ps_if (pt_cmpR op_gt (pe_dget hu (pv 1) (pv 6) (fun _ _ => rfl)) pe_int (nomark _)) (pss_cons (ps_dput hu (pv 7) (pv 6) (pe_op op_sub (pe_dget hu (pv 1) (pv 6) (fun _ _ => rfl)) pe_int) rfl)
          (pss_one (ps_expr (pe_bm PySem.F.plainAttrs_list PySem.F.slot_list_append PySem.F.type_list_append mt_append (pv 4) (pa_cons (pe_make MS G_sI hr (by rfl) TS.mgC b_s3 v_s3 pass0 (pa_cons (pe_make MN G_nI hr (by rfl) T.mgC b_n v_n pass0 (pa_cons (pv 0) (pa_cons (pv 7) pa_nil))) (pa_cons (pv 2) (pa_cons (pv 3) pa_nil)))) pa_nil))))) pss_nil)))))
      (pss_cons (ps_mid (ps_if (pt_cmpR op_lt (pe_callB call_lenD (by rfl) x_len PySem.boot_len (pa_cons (pv 0) pa_nil)) pe_int (nomark _)) (pss_cons (ps_setLc (i := 8) (own := [("_law_word", 9)]) (g := gName 9) (te := (tVar 9)) rfl scOthers.nd rfl rfl rfl (pi_list (pe_lst (pa_cons pe_str (pa_cons pe_str (pa_cons pe_str (pa_cons pe_str (pa_cons pe_str (pa_cons pe_str (pa_cons pe_str (pa_cons pe_str (pa_cons pe_str (pa_cons pe_str (pa_cons pe_str (pa_cons pe_str pa_nil)))))))))))))) (blkOk_by (N := ["_law_wide", "_law_joins", "_law_fed", "_law_often", "_law_found", "_law_one", "_law_two", "_law_fewer", "_law_new", "_law_word", "_law_pair"]) (sc := defScope s_law_others) (by decide +kernel)) (fun _ _ _ _ _ => (pg_name (i := 9) scOthers.nd rfl (Or.inl rfl))) (fun _ _ _ _ _ => pts_one (pt_cmp (pc_dnotin hu (pv 9) (pv 0)))) (fun _ _ _ _ _ => (pv 9)))
        (pss_one (ps_expr (pe_bm PySem.F.plainAttrs_list PySem.F.slot_list_append PySem.F.type_list_append mt_append (pv 4) (pa_cons (pe_make MS G_sI hr (by rfl) TS.mgC b_s3 v_s3 pass0 (pa_cons (pe_make MN G_nI hr (by rfl) T.mgC b_n v_n pass0 (pa_cons (pe_call G_lmore hr1 (by rfl) g_lmore F_lmore.kp b_lmore .nil pass0 (pa_cons (pv 0) (pa_cons (pe_ix ix_list (pv 8) pe_int (fun _ _ => rfl)) pa_nil))) (pa_cons (pv 1) pa_nil))) (pa_cons (pv 2) (pa_cons (pv 3) pa_nil)))) pa_nil))))) pss_nil))
      (pss_one (ps_ret (pv 4))))))), ?_⟩
    have wf := good.wf
    have lB := wf.lb
    have okf : ∀ y ∈ Qf, y.1 ∈ nms B ∧ 0 ≤ y.2 := fun y hy => ⟨(tf.el y hy).1, (tf.el y hy).2.1⟩
    have oko : ∀ y ∈ Qo, y.1 ∈ nms B ∧ 0 ≤ y.2 := fun y hy => ⟨(to_.el y hy).1, (to_.el y hy).2.1⟩
    have len : ∀ {Qd : Br}, (nms Qd).Nodup → (∀ y ∈ Qd, y.1 ∈ nms B ∧ 0 ≤ y.2) → Qd.length ≤ 12 := fun {Qd} h1 h2 => by
      have := len_le_of_sub h1 (m := nms B) fun y hy => by
        obtain ⟨u, hu', e⟩ := List.mem_map.mp hy
        rw [← (show u.1 = y from e)]; exact (h2 u hu').1
      rw [nms_len, nms_len] at this
      omega
    have lf := len tf.nd okf
    have lo := len to_.nd oko
    refine ⟨line1000 (by show 0 ≤ 1000; decide), fun D nD => ?_⟩
    obtain ⟨H0, eH0, s0, hD0⟩ : ∃ X, X = upd H D (.lst []) ∧ Same H X ∧ X D = some (.lst (([] : List Addr).map V.ref)) := ⟨_, rfl, same_new nD, upd_same⟩
    rw [← eH0]
    refine ⟨.ref a, rfl, a, bk B, nms B, rfl, .inl (s0 a _ hA), bk_keysL B, by rw [nms_len]; omega, fun M r pm so nr => ?_⟩
    obtain ⟨H1, eH1, s1, hr1⟩ : ∃ X, X = upd H0 r (.lst (M.map V.str)) ∧ Same H0 X ∧ X r = some (.lst (M.map V.str)) := ⟨_, rfl, same_new nr, upd_same⟩
    rw [← eH1]
    have hDr : D ≠ r := ne_of_none hD0 nr
    have lM : M.length ≤ 12 := by rw [pm.length_eq, nms_len]; exact lB
    refine ⟨r, rfl, ⟨_, SqL.of hr1⟩, ?_⟩
    have kpD : ∀ {X : Hp} {b : Addr} {u : HO}, Kp D H X → H b = some u → X b = some u := fun {X b u} k e => k _ _ (ne_of_none e nD) e
    refine for_it (walk_list (xs := M.map V.str)) (fun i σ H2 => ∃ (ss : List Addr) (y5 : Option V), σ = [some (.ref a), some (.ref j), some (.ref fd'), some (.ref o), some (.ref D), y5, none, none, none, none, none] ∧ OI CS C D B Pp Qf Qo H H2 ss ∧ H2 r = some (.lst (M.map V.str)) ∧ ss.length ≤ 3 * i)
      ⟨[], none, rfl, ⟨s1 _ _ hD0, fun s hs => absurd hs List.not_mem_nil, fun b u nb e => s1 _ _ (s0 _ _ e)⟩, hr1, Nat.le_refl _⟩ (fun i σ H2 _ ⟨_, _, _, _, h, _⟩ => SqL.of h) ?_ ?_
    · rintro i x σ H0' H2 hi ⟨ss, y5, rfl, oi, hr2, ls⟩ ⟨e2, hx⟩
      subst e2
      rw [List.getElem?_map] at hx
      obtain ⟨z, hy, rfl⟩ := Option.map_eq_some_iff.mp hx
      have mz : z ∈ nms B := pm.mem_iff.mp (List.mem_of_getElem? hy)
      rw [List.length_map] at hi
      refine ⟨.ref D, rfl, .inl ⟨rfl, _, SqL.of oi.hD⟩, ?_⟩
      refine ⟨.ref a, rfl, .ref j, rfl, ?_⟩
      refine net_mkO (kpD oi.kp hA) (kpD oi.kp hJ) good fun n3 B3 P3 H3 s3 nn3 N3 pB3 pP3 so3 st3 of3 => ?_
      refine ⟨.ref fd', rfl, .str z, rfl, fd', Qf, z, rfl, s3 _ _ (kpD oi.kp hF), tf.nd, lf, fun H4 m4 s4 nm4 h4 => ?_⟩
      refine ⟨.ref o, rfl, ?_⟩
      refine st_mk (N3.same s4) (good.perm pB3.symm pP3.symm) h4 (s4 _ _ (s3 _ _ (kpD oi.kp hO))) (putB_nd tf.nd) (tr_el pB3 (putB_el okf mz (by have := (tf.val z).1; omega))) to_.nd (tr_el pB3 oko) fun s5 H5 s45 ns5 S5 of5 => ?_
      have sA := (s3.trans s4).trans s45
      have oA : OthS CS C H5 B Pp Qf Qo s5 := oth_of good good pB3 pP3 S5 (.inr (.inr (.inl ⟨z, mz, mz, by rw [putB_val, if_pos rfl]; omega⟩)))
      have hD_ := sA _ _ oi.hD
      refine ⟨D, ss.map V.ref, .ref s5, rfl, rfl, hD_, by rw [List.length_map]; exact small1000 (by (try simp only [List.length_append, List.length_singleton]); omega), ?_⟩
      have oi2 := oi.step sA oA
      have hr3 := (show (upd H5 D (.lst (ss.map V.ref ++ [V.ref s5]))) r = some (.lst (M.map V.str)) by rw [upd_ne (Ne.symm hDr)]; exact sA _ _ hr2)
      obtain ⟨H6, e6⟩ : ∃ X, X = upd H5 D (.lst (ss.map V.ref ++ [V.ref s5])) := ⟨_, rfl⟩
      rw [← e6] at oi2 hr3
      rw [← e6]
      refine ⟨.ref D, rfl, .inl ⟨rfl, _, SqL.of oi2.hD⟩, ?_⟩
      refine ⟨.ref a, rfl, .ref j, rfl, ?_⟩
      refine net_mkO (kpD oi2.kp hA) (kpD oi2.kp hJ) good fun n7 B7 P7 H7 s7 nn7 N7 pB7 pP7 so7 st7 of7 => ?_
      refine ⟨.ref fd', rfl, .ref o, rfl, .str z, rfl, o, Qo, z, rfl, s7 _ _ (kpD oi2.kp hO), to_.nd, lo, fun H8 m8 s8 nm8 h8 => ?_⟩
      refine st_mk (N7.same s8) (good.perm pB7.symm pP7.symm) (s8 _ _ (s7 _ _ (kpD oi2.kp hF))) h8 tf.nd (tr_el pB7 okf) (putB_nd to_.nd) (tr_el pB7 (putB_el oko mz (by have := (to_.val z).1; omega))) fun s9 H9 s89 ns9 S9 of9 => ?_
      have sB := (s7.trans s8).trans s89
      have oB : OthS CS C H9 B Pp Qf Qo s9 := oth_of good good pB7 pP7 S9 (.inr (.inr (.inr ⟨z, mz, mz, by rw [putB_val, if_pos rfl]; omega⟩)))
      have hD_ := sB _ _ oi2.hD
      refine ⟨D, (ss ++ [s5]).map V.ref, .ref s9, rfl, rfl, hD_, by rw [List.length_map]; exact small1000 (by (try simp only [List.length_append, List.length_singleton]); omega), ?_⟩
      have oi3 := oi2.step sB oB
      have hr4 := (show (upd H9 D (.lst ((ss ++ [s5]).map V.ref ++ [V.ref s9]))) r = some (.lst (M.map V.str)) by rw [upd_ne (Ne.symm hDr)]; exact sB _ _ hr3)
      obtain ⟨H10, e10⟩ : ∃ X, X = upd H9 D (.lst ((ss ++ [s5]).map V.ref ++ [V.ref s9])) := ⟨_, rfl⟩
      rw [← e10] at oi3 hr4
      rw [← e10]
      obtain ⟨cz, hcz⟩ := getB_some mz
      have vz : val0 B z = cz := by unfold val0; rw [hcz]; rfl
      refine get_bk (.inl (kpD oi3.kp hA)) hcz rfl rfl ⟨cz, 60, rfl, rfl, _, rfl, ite2 (fun cc => ?_) (fun cc => ?_)⟩
      · have lt60 : val0 B z < 60 := by rw [vz]; exact of_decide_eq_true cc
        have gb := good.bump lt60
        refine ⟨.ref D, rfl, .inl ⟨rfl, _, SqL.of oi3.hD⟩, ?_⟩
        refine ⟨.ref a, rfl, .str z, rfl, a, B, z, rfl, kpD oi3.kp hA, wf.nb, lB, fun H11 m11 s11 nm11 h11 => ?_⟩
        rw [putB_bumped wf.nb mz] at h11
        refine ⟨.ref j, rfl, ?_⟩
        refine net_mkO h11 (s11 _ _ (kpD oi3.kp hJ)) gb fun n12 B12 P12 H12 s12 nn12 N12 pB12 pP12 so12 st12 of12 => ?_
        refine ⟨.ref fd', rfl, .ref o, rfl, ?_⟩
        have s1112 := s11.trans s12
        have pn : ∀ {Qd : Br}, (∀ y ∈ Qd, y.1 ∈ nms B ∧ 0 ≤ y.2) → ∀ y ∈ Qd, y.1 ∈ nms (bumped B z) ∧ 0 ≤ y.2 := fun h y hy => by rw [nms_bumped]; exact h y hy
        refine st_mk N12 (gb.perm pB12.symm pP12.symm) (s1112 _ _ (kpD oi3.kp hF)) (s1112 _ _ (kpD oi3.kp hO)) tf.nd (tr_el pB12 (pn okf)) to_.nd (tr_el pB12 (pn oko)) fun s13 H13 s1213 ns13 S13 of13 => ?_
        have sC := s1112.trans s1213
        have oC : OthS CS C H13 B Pp Qf Qo s13 := oth_of good gb pB12 pP12 S13 (.inl ⟨Sum.inr z, bumped_dif wf.nb mz⟩)
        have hD_ := sC _ _ oi3.hD
        refine ⟨D, ((ss ++ [s5]) ++ [s9]).map V.ref, .ref s13, rfl, rfl, hD_, by rw [List.length_map]; exact small1000 (by (try simp only [List.length_append, List.length_singleton]); omega), ?_⟩
        have oi4 := oi3.step sC oC
        have hr5 := (show (upd H13 D (.lst (((ss ++ [s5]) ++ [s9]).map V.ref ++ [V.ref s13]))) r = some (.lst (M.map V.str)) by rw [upd_ne (Ne.symm hDr)]; exact sC _ _ hr4)
        exact ⟨_, some (.str z), rfl, oi4, hr5, by (try simp only [List.length_append, List.length_singleton]); omega⟩
      · exact ⟨_, some (.str z), rfl, oi3, hr4, by (try simp only [List.length_append, List.length_singleton]); omega⟩
    · rintro σ H2 ⟨ss, y5, rfl, oi, hr2, ls⟩
      rw [List.length_map] at ls
      refine ⟨.ref j, rfl, j, pt Pp, Pp.map Prod.fst, rfl, .inl (kpD oi.kp hJ), pt_keysL Pp, by rw [List.length_map]; have := wf.lp; omega, fun qs e pm2 so2 hq ne => ?_⟩
      obtain ⟨H3, eH3, s3, he⟩ : ∃ X, X = upd H2 e (.lst (qs.map fun q => V.ref q.1)) ∧ Same H2 X ∧ X e = some (.lst (qs.map fun q => V.ref q.1)) := ⟨_, rfl, same_new ne, upd_same⟩
      rw [← eH3]
      refine ⟨3, rfl, e, _, rfl, SqL.of he, fun p2 np2 => ?_⟩
      obtain ⟨cs, ecs⟩ : ∃ cs, cs = cutV (qs.map fun q => V.ref q.1) none (some 3) := ⟨_, rfl⟩
      have lcs : cs.length ≤ 200 := by
        have h1 := cutV_length (qs.map fun q => V.ref q.1) none (some 3)
        have h2 := pm2.length_eq
        have h3 := wf.lp
        rw [← ecs, List.length_map] at h1
        rw [List.length_map, List.length_map] at h2
        omega
      have mcs : ∀ v ∈ cs, ∃ u ∈ qs, V.ref u.1 = v := fun v hv => by
        rw [ecs] at hv
        unfold cutV at hv
        exact List.mem_map.mp (List.mem_of_mem_drop (List.mem_of_mem_take hv))
      rw [← ecs]
      obtain ⟨HL, eHL, s4, hp2⟩ : ∃ X, X = upd H3 p2 (.lst cs) ∧ Same H3 X ∧ X p2 = some (.lst cs) := ⟨_, rfl, same_new np2, upd_same⟩
      rw [← eHL]
      have sHL := s3.trans s4
      have hqL : ∀ u ∈ qs, HL u.1 = some (.tup [.str u.2.1, .str u.2.2]) := fun u hu' => sHL _ _ (hq u hu')
      have oiL : OI CS C D B Pp Qf Qo H HL ss := ⟨sHL _ _ oi.hD, fun s hs => (oi.al s hs).same sHL, fun b u nb e => sHL _ _ (oi.kp _ _ nb e)⟩
      have hp2D : p2 ≠ D := fun z => by subst z; have := s3 _ _ oi.hD; rw [np2] at this; cases this
      have sml : ∀ p ∈ Pp, Sm 8 p.1.1 ∧ Sm 8 p.1.2 := fun p hp => by
        obtain ⟨x1, x2, _⟩ := wf.rp p hp
        obtain ⟨y1, hy1, f1⟩ := List.mem_map.mp x1
        obtain ⟨y2, hy2, f2⟩ := List.mem_map.mp x2
        rw [← (show y1.1 = p.1.1 from f1), ← (show y2.1 = p.1.2 from f2)]
        exact ⟨((wf.rb y1 hy1).1 : Nm _).sm, ((wf.rb y2 hy2).1 : Nm _).sm⟩
      clear eHL ecs eH3
      refine ⟨p2, rfl, ⟨_, SqL.of hp2⟩, ?_⟩
      refine for_it (walk_list (xs := cs)) (fun i σ H2 => ∃ (ss : List Addr) (y6 y7 : Option V), σ = [some (.ref a), some (.ref j), some (.ref fd'), some (.ref o), some (.ref D), y5, y6, y7, none, none, none] ∧ OI CS C D B Pp Qf Qo H H2 ss ∧ Kp D HL H2 ∧ ss.length ≤ 36 + 2 * i)
        ⟨ss, none, none, rfl, oiL, Kp.refl _ _, by omega⟩ (fun i σ H2 _ ⟨_, _, _, _, _, h, _⟩ => SqL.of (h _ _ hp2D hp2)) ?_ ?_
      · rintro i x σ H0' H4 hi ⟨ss, y6, y7, rfl, oi, kpL, ls⟩ ⟨e2, hx⟩
        subst e2
        obtain ⟨u, mu, rfl⟩ := mcs x (List.mem_of_getElem? hx)
        have htu : H4 u.1 = some (.tup [.str u.2.1, .str u.2.2]) := kpL _ _ (fun z => by have := hqL u mu; rw [z, oiL.hD] at this; cases this) (hqL u mu)
        have mk : u.2 ∈ Pp.map Prod.fst := pm2.mem_iff.mp (List.mem_map.mpr ⟨u, mu, rfl⟩)
        obtain ⟨pw, hpw, epw⟩ := List.mem_map.mp mk
        obtain ⟨wv, ew⟩ : ∃ wv, wv = pw.2 := ⟨_, rfl⟩
        have mw : (u.2, wv) ∈ Pp := by rw [ew, ← epw]; exact hpw
        have gw : getP Pp u.2 = some wv := getP_of_mem wf.np mw
        have smr : Sm 8 u.2.1 ∧ Sm 8 u.2.2 := sml _ mw
        have hJ4 := kpD oi.kp hJ
        refine fewer_ok (pr := u.2) wf.np wf.lp sml smr hJ4 htu rfl (fun _ => rfl) (fun _ => rfl) (fun _ => rfl) (fun _ => rfl) fun D2 as H5 s45 nD2 hD2 tri => ?_
        have nds : ((sans u.2 Pp).map Prod.fst).Nodup := (List.filter_sublist.map _).nodup wf.np
        refine ⟨D2, as, pt (sans u.2 Pp), rfl, SqL.of hD2, pairedT_of tri, fun m nm => ?_⟩
        have em : Rl.mergeT [] (pt (sans u.2 Pp)) = pt (sans u.2 Pp) := mergeT_pt _ [] (by rw [List.nil_append]; exact nds)
        rw [em]
        obtain ⟨H6, eH6, s56, hm6⟩ : ∃ X, X = upd H5 m (.dT (pt (sans u.2 Pp))) ∧ Same H5 X ∧ X m = some (.dT (pt (sans u.2 Pp))) := ⟨_, rfl, same_new nm, upd_same⟩
        rw [← eH6]
        clear eH6
        have s46 := s45.trans s56
        have nm4 : H4 m = none := s45.free nm
        have mD : D ≠ m := ne_of_none oi.hD nm4
        have g2 : Good B (sans u.2 Pp) := good.thin ⟨mw, .inl rfl⟩
        refine ⟨.ref D, rfl, .inl ⟨rfl, _, SqL.of (s46 _ _ oi.hD)⟩, ?_⟩
        refine ⟨.ref a, rfl, .ref m, rfl, ?_⟩
        refine net_mkO (s46 _ _ (kpD oi.kp hA)) hm6 g2 fun n7 B7 P7 H7 s67 nn7 N7 pB7 pP7 so7 st7 of7 => ?_
        refine ⟨.ref fd', rfl, .ref o, rfl, ?_⟩
        have s47 := s46.trans s67
        refine st_mk N7 (g2.perm pB7.symm pP7.symm) (s47 _ _ (kpD oi.kp hF)) (s47 _ _ (kpD oi.kp hO)) tf.nd (tr_el pB7 okf) to_.nd (tr_el pB7 oko) fun s8 H8 s78 ns8 S8 of8 => ?_
        have s48 := s47.trans s78
        have o8 : OthS CS C H8 B Pp Qf Qo s8 := oth_of good g2 pB7 pP7 S8 (.inr (.inl ⟨Rl.pk u.2, by rw [valV_pt, valV_pt, gw, getP_sans]; intro e; cases e⟩))
        have off8 : OffS CS C H8 s8 m := of8 m _ (s67 _ _ hm6) (of7 m _ hm6)
        have hD_ := s48 _ _ oi.hD
        refine ⟨D, ss.map V.ref, .ref s8, rfl, rfl, hD_, by rw [List.length_map]; exact small1000 (by (try simp only [List.length_append, List.length_singleton]); omega), ?_⟩
        have oi2 := oi.step s48 o8
        obtain ⟨H9, e9⟩ : ∃ X, X = upd H8 D (.lst (ss.map V.ref ++ [V.ref s8])) := ⟨_, rfl⟩
        rw [← e9] at oi2
        rw [← e9]
        have k49 : Kp D H4 H9 := fun b x nb e => by rw [e9, upd_ne nb]; exact s48 _ _ e
        have hm9 : H9 m = some (.dT (pt (sans u.2 Pp))) := by rw [e9, upd_ne (Ne.symm mD)]; exact s78 _ _ (s67 _ _ hm6)
        have hu9 : H9 u.1 = some (.tup [.str u.2.1, .str u.2.2]) := k49 _ _ (fun z => by rw [z, oi.hD] at htu; cases htu) htu
        have hJ9 := kpD oi2.kp hJ
        have dg : ∀ {X : Hp}, X j = some (.dT (pt Pp)) → X u.1 = some (.tup [.str u.2.1, .str u.2.2]) → DGet X j (.ref u.1) (some (.int wv)) := fun h1 h2 => .inr ⟨_, Rl.pk u.2, u.1, .inl h1, rfl, h2, by rw [valV_pt, gw]; rfl⟩
        refine ⟨.ref j, rfl, .ref u.1, rfl, j, .int wv, rfl, dg hJ9 hu9, wv, 1, rfl, rfl, _, rfl, ite2 (fun cc => ?_) (fun cc => ?_)⟩
        · have w1 : wv > 1 := of_decide_eq_true cc
          refine ⟨.ref j, rfl, .ref u.1, rfl, j, .int wv, rfl, dg hJ9 hu9, wv, 1, rfl, rfl, ?_⟩
          refine ⟨.ref m, rfl, .ref u.1, rfl, m, _, rfl, DPut.t (k := Rl.pk u.2) hm9 hu9 (by rw [pt_len]; refine small1000 (Nat.le_trans (List.length_filter_le _ _) ?_); have := wf.lp; omega), ?_⟩
          rw [putK_pt sans_not]
          obtain ⟨H10, e10⟩ : ∃ X, X = upd H9 m (.dT (pt (sans u.2 Pp ++ [(u.2, wv - 1)]))) := ⟨_, rfl⟩
          rw [← e10]
          have hm10 : H10 m = some (.dT (pt (sans u.2 Pp ++ [(u.2, wv - 1)]))) := by rw [e10, upd_same]
          have k10 : ∀ b x, H9 b = some x → b ≠ m → H10 b = some x := fun b x e nb => by rw [e10, upd_ne nb]; exact e
          have k410 : ∀ b x, H4 b = some x → b ≠ D → H10 b = some x := fun b x e nb => k10 _ _ (k49 _ _ nb e) (ne_of_none e nm4)
          have nl910 : NL H8 H9 := by rw [e9]; exact NL.lst (s48 _ _ oi.hD)
          have oi3 : OI CS C D B Pp Qf Qo H H10 (ss ++ [s8]) := by
            refine ⟨k10 _ _ oi2.hD mD, fun s hs => ?_, fun b x nb e => k410 _ _ (oi.kp _ _ nb e) nb⟩
            rcases List.mem_append.mp hs with hs | hs
            · refine (oi.al s hs).nl fun x q e no => k410 _ _ e fun z => ?_
              subst z
              rw [oi.hD] at e
              exact no _ (Option.some.inj e).symm
            · rw [List.mem_singleton.mp hs]
              refine OthS.off (o8.nl nl910) (off8.nl nl910) (.inr ⟨_, hm9⟩) k10
          have g3 : Good B (sans u.2 Pp ++ [(u.2, wv - 1)]) := good.thin ⟨mw, .inr ⟨wv - 1, by omega, by omega, rfl⟩⟩
          refine ⟨.ref D, rfl, .inl ⟨rfl, _, SqL.of oi3.hD⟩, ?_⟩
          refine ⟨.ref a, rfl, .ref m, rfl, ?_⟩
          refine net_mkO (kpD oi3.kp hA) hm10 g3 fun n11 B11 P11 H11 s1011 nn11 N11 pB11 pP11 so11 st11 of11 => ?_
          refine ⟨.ref fd', rfl, .ref o, rfl, ?_⟩
          refine st_mk N11 (g3.perm pB11.symm pP11.symm) (s1011 _ _ (kpD oi3.kp hF)) (s1011 _ _ (kpD oi3.kp hO)) tf.nd (tr_el pB11 okf) to_.nd (tr_el pB11 oko) fun s12 H12 s1112 ns12 S12 of12 => ?_
          have sE := s1011.trans s1112
          have oE : OthS CS C H12 B Pp Qf Qo s12 := oth_of good g3 pB11 pP11 S12 (.inr (.inl ⟨Rl.pk u.2, by
            rw [valV_pt, valV_pt, gw, getP_of_mem g3.wf.np (List.mem_append_right _ (List.mem_singleton.mpr rfl))]
            intro e
            have : wv = wv - 1 := by simpa using e
            omega⟩))
          have hD_ := sE _ _ oi3.hD
          refine ⟨D, (ss ++ [s8]).map V.ref, .ref s12, rfl, rfl, hD_, by rw [List.length_map]; exact small1000 (by (try simp only [List.length_append, List.length_singleton]); omega), ?_⟩
          have oi4 := oi3.step sE oE
          refine ⟨_, some (.ref u.1), some (.ref m), rfl, oi4, fun b x nb e => ?_, by (try simp only [List.length_append, List.length_singleton]); omega⟩
          rw [upd_ne nb]
          exact sE _ _ (k410 _ _ (kpL _ _ nb e) nb)
        · exact ⟨_, some (.ref u.1), some (.ref m), rfl, oi2, fun b x nb e => k49 _ _ nb (kpL _ _ nb e), by (try simp only [List.length_append, List.length_singleton]); omega⟩
      · rintro σ H2 ⟨ss, y6, y7, rfl, oi, kpL, ls⟩
        refine ⟨fun σ' H' => ∃ (ss : List Addr) (y8 : Option V), σ' = [some (.ref a), some (.ref j), some (.ref fd'), some (.ref o), some (.ref D), y5, y6, y7, y8, none, none] ∧ OI CS C D B Pp Qf Qo H H' ss ∧ ss.length ≤ 600, ?_, ?_⟩
        · refine ⟨.ref a, rfl, a, bk B, rfl, kpD oi.kp hA, _, 12, rfl, rfl, _, rfl, ite2 (fun cc => ?_) (fun cc => ?_)⟩
          · have l12 : B.length < 12 := by have := of_decide_eq_true cc; rw [bk_len] at this; omega
            refine ⟨line1000 (by show 12 ≤ 1000; decide), fun L nL => ?_⟩
            obtain ⟨H3, eH3, s3, hL⟩ : ∃ X, X = upd H2 L (.lst [V.str "q", V.str "qq", V.str "qqq", V.str "r", V.str "rr", V.str "s", V.str "ss", V.str "t", V.str "tt", V.str "u", V.str "uu", V.str "v"]) ∧ Same H2 X ∧ X L = some (.lst (newW.map V.str)) := ⟨_, rfl, same_new nL, upd_same⟩
            rw [← eH3]
            clear eH3
            refine ⟨L, rfl, ⟨_, SqL.of hL⟩, fun D2 nD2 => ?_⟩
            refine keep_lc (l := newW) (b := fun z => decide (z ∉ nms B)) (by decide) hL nD2 (fun _ => rfl) (fun _ => rfl) (fun z H4 R mz s4 k => ?_) (fun H4 hD2 s4 => ?_)
            · have hA4 := s4 _ _ (s3 _ _ (kpD oi.kp hA))
              refine ⟨.str z, rfl, .ref a, rfl, a, _, rfl, .inl ⟨_, Sum.inr z, .inl hA4, rfl, rfl⟩, _, rfl, ?_⟩
              rw [notin_eq]
              exact k _ (Same.refl _)
            · obtain ⟨z, rest, ef, mz, nz⟩ := newW_has (B := B) l12
              rw [ef] at hD2
              have s24 := s3.trans s4
              have gn := good.newPond nz (newW_nm z mz) l12
              refine ⟨.ref D, rfl, .inl ⟨rfl, _, SqL.of (s24 _ _ oi.hD)⟩, ?_⟩
              refine ⟨.ref a, rfl, .ref D2, rfl, D2, _, 0, .str z, rfl, rfl, SqL.of hD2, atI_nat (j := 0) rfl, a, B, z, rfl, s24 _ _ (kpD oi.kp hA), wf.nb, lB, fun H5 m5 s45 nm5 h5 => ?_⟩
              have epb : putB B z (val0 B z + 1) = B ++ [(z, 1)] := by
                unfold putB val0
                rw [if_neg nz, getB_none nz]; rfl
              rw [epb] at h5
              refine ⟨.ref j, rfl, ?_⟩
              have s25 := s24.trans s45
              refine net_mkO h5 (s25 _ _ (kpD oi.kp hJ)) gn fun n6 B6 P6 H6 s56 nn6 N6 pB6 pP6 so6 st6 of6 => ?_
              refine ⟨.ref fd', rfl, .ref o, rfl, ?_⟩
              have s26 := s25.trans s56
              have pn : ∀ {Qd : Br}, (∀ y ∈ Qd, y.1 ∈ nms B ∧ 0 ≤ y.2) → ∀ y ∈ Qd, y.1 ∈ nms (B ++ [(z, 1)]) ∧ 0 ≤ y.2 := fun h y hy => by
                rw [nms_append]
                exact ⟨List.mem_append_left _ (h y hy).1, (h y hy).2⟩
              refine st_mk N6 (gn.perm pB6.symm pP6.symm) (s26 _ _ (kpD oi.kp hF)) (s26 _ _ (kpD oi.kp hO)) tf.nd (tr_el pB6 (pn okf)) to_.nd (tr_el pB6 (pn oko)) fun s7 H7 s67 ns7 S7 of7 => ?_
              have sF := s26.trans s67
              have oF : OthS CS C H7 B Pp Qf Qo s7 := oth_of good gn pB6 pP6 S7 (.inl ⟨Sum.inr z, by
                rw [valV_bk, valV_bk, getB_none nz, getB_of_mem gn.wf.nb (List.mem_append_right _ (List.mem_singleton.mpr rfl))]
                intro e; cases e⟩)
              have hD_ := sF _ _ oi.hD
              refine ⟨D, ss.map V.ref, .ref s7, rfl, rfl, hD_, by rw [List.length_map]; exact small1000 (by omega), ?_⟩
              have oi2 := oi.step sF oF
              exact ⟨_, some (.ref D2), rfl, oi2, by (try simp only [List.length_append, List.length_singleton]); omega⟩
          · exact ⟨ss, none, rfl, oi, by omega⟩
        · rintro σ' H' ⟨ss, y8, rfl, oi, ls⟩
          exact ⟨.ref D, rfl, q H' D ss (fun b x e => kpD oi.kp e) nD oi.hD ls oi.al⟩
end
end Nl
end
section
set_option maxHeartbeats 4000000
/-! calls by keywords: every parameter written by its name, in any order; a keyword-only default that lacks -/
namespace Rl
open PySem PySem.Spec PyProof.Rows L2
theorem vals_at : ∀ {zs : List V} {ws : List Value}, Vals zs ws → ∀ k, RelV (zs.getD k .non) (ws.getD k .none)
  | [], [], _, k => by cases k <;> rfl
  | [], _ :: _, h, _ => by cases h
  | _ :: _, [], h, _ => by cases h
  | z :: zs, w :: ws, h, k => by
    cases h with
    | cons h1 h2 =>
      cases k with
      | zero => exact h1
      | succ k => exact vals_at h2 k
theorem vals_pickK {zs : List V} {ws : List Value} (h : Vals zs ws) : ∀ ix : List Nat, Vals (ix.map fun k => zs.getD k .non) (ix.map fun k => ws.getD k .none)
  | [] => .nil
  | k :: ix => .cons (vals_at h k) (vals_pickK h ix)
variable {K : PySem.W.Frag} {x qual : Str} {params : Arguments} {body : List Stmt} {scope : Scope} {dvs : List V} {kws : List (Str × V)} {f : Addr} {fd : FuncData} {ps : List Str}
abbrev gPick (ix : List Nat) : List Value → List Value → List Value := fun us ws => us ++ ix.map fun k => ws.getD k .none
abbrev gPickV (ix : List Nat) : List V → List V → List V := fun vs zs => vs ++ ix.map fun k => zs.getD k .non
/-- no positional defaults -/
theorem kbP (F : FunD K x qual params body scope [] kws f fd) (n : Nat) (ks : List Str) (ix : List Nat)
    (h : ∀ (kV doc pm : Value) (an : Option Addr) (cdv ct : Value) (us ws : List Value), us.length = n → ws.length = ks.length → bindArgs (PySem.W.fnOf x qual params body scope .none kV doc pm an cdv ct) ⟨us, ks.zip ws⟩ = pure (ps.zip (gPick ix us ws))) : KBn K fd ps n ks (gPick ix) (gPickV ix) := by
  obtain ⟨oc, od, dV, kV, doc, pm, an, cdv, ct, osl, rfl, lk, hcd, hD, hK⟩ := F.ex
  rcases hD with ⟨_, rfl⟩ | ⟨e, _⟩
  · exact ⟨fun s us ws X l1 l2 => .of_eq (h kV doc pm an cdv ct us ws l1 l2), fun r1 r2 => r1.append (vals_pickK r2 ix)⟩
  · exact absurd rfl e
/-- with positional defaults, all of them written -/
theorem kbQ (F : FunD K x qual params body scope dvs kws f fd) (n : Nat) (ks : List Str) (ix : List Nat) (hd : dvs ≠ [])
    (h : ∀ (T : Addr) (kV doc pm : Value) (an : Option Addr) (cdv ct : Value) (us ws its : List Value), us.length = n → ws.length = ks.length → its.length = dvs.length →
      ∃ k, bindArgs (PySem.W.fnOf x qual params body scope (.ref T) kV doc pm an cdv ct) ⟨us, ks.zip ws⟩ = seqItems? (.ref T) >>= k ∧ k (some its.toArray) = pure (ps.zip (gPick ix us ws))) : KBn K fd ps n ks (gPick ix) (gPickV ix) := by
  obtain ⟨oc, od, dV, kV, doc, pm, an, cdv, ct, osl, rfl, lk, hcd, hD, hK⟩ := F.ex
  rcases hD with ⟨e, _⟩ | ⟨_, T, o, its, m, rfl, lT, oT, rT⟩
  · exact absurd e hd
  · refine ⟨fun s us ws X l1 l2 => ?_, fun r1 r2 => r1.append (vals_pickK r2 ix)⟩
    obtain ⟨k, e1, e2⟩ := h T kV doc pm an cdv ct us ws its l1 l2 rT.length.symm
    refine BindsTo.of_looks fun M => ?_
    rw [e1]
    exact looks_items X lT oT (.of_pure e2)
/-- with positional defaults, all of them written, keywords in the parameters' order -/
theorem kbI (F : FunD K x qual params body scope dvs kws f fd) (n : Nat) (ks : List Str) (hd : dvs ≠ [])
    (h : ∀ (T : Addr) (kV doc pm : Value) (an : Option Addr) (cdv ct : Value) (us ws its : List Value), us.length = n → ws.length = ks.length → its.length = dvs.length →
      ∃ k, bindArgs (PySem.W.fnOf x qual params body scope (.ref T) kV doc pm an cdv ct) ⟨us, ks.zip ws⟩ = seqItems? (.ref T) >>= k ∧ k (some its.toArray) = pure (ps.zip (us ++ ws))) : KBn K fd ps n ks (fun us ws => us ++ ws) (fun vs zs => vs ++ zs) := by
  obtain ⟨oc, od, dV, kV, doc, pm, an, cdv, ct, osl, rfl, lk, hcd, hD, hK⟩ := F.ex
  rcases hD with ⟨e, _⟩ | ⟨_, T, o, its, m, rfl, lT, oT, rT⟩
  · exact absurd e hd
  · refine ⟨fun s us ws X l1 l2 => ?_, fun r1 r2 => r1.append r2⟩
    obtain ⟨k, e1, e2⟩ := h T kV doc pm an cdv ct us ws its l1 l2 rT.length.symm
    refine BindsTo.of_looks fun M => ?_
    rw [e1]
    exact looks_items X lT oT (.of_pure e2)
/-- keyword-only defaults that lack, the others by name -/
theorem kbK (F : FunD K x qual params body scope [] kws f fd) (n : Nat) (ns : List Str) (ix : List Nat) (hk : kws ≠ [])
    (h : ∀ (D : Addr) (doc pm : Value) (an : Option Addr) (cdv ct : Value) (us ws ks : List Value), us.length = n → ws.length = ns.length → ks.length = kws.length →
      KwChain D ((kws.map (·.1)).zip ks) (bindArgs (PySem.W.fnOf x qual params body scope .none (.ref D) doc pm an cdv ct) ⟨us, ns.zip ws⟩) (ps.zip (gPick ix us ws ++ ks))) :
    ∃ ks, KBn K fd ps n ns (fun us ws => gPick ix us ws ++ ks) (fun vs zs => gPickV ix vs zs ++ kws.map (·.2)) := by
  obtain ⟨oc, od, dV, kV, doc, pm, an, cdv, ct, osl, rfl, lk, hcd, hD, hK⟩ := F.ex
  rcases hD with ⟨_, rfl⟩ | ⟨e, _⟩
  · rcases hK with e | ⟨D, rfl, hq⟩
    · exact absurd e hk
    · obtain ⟨ks, hl, rk, hks⟩ := kwd_vals hq
      refine ⟨ks, ⟨fun s us ws X l1 l2 => ?_, fun r1 r2 => (r1.append (vals_pickK r2 ix)).append rk⟩⟩
      exact BindsTo.of_looks fun M => KwChain.looks X hks (h D doc pm an cdv ct us ws ks l1 l2 hl)
  · exact absurd rfl e
end Rl
end
section
set_option maxHeartbeats 4000000
namespace Nl
open PySem PySem.Spec PyProof.Rows L2 Nt
def spLaw (K : PySem.W.Frag) : Sp := fun vs H Q _ => ∃ (a : Addr) (ns : List Int), vs = [.ref a] ∧ SqL K H a (ns.map V.int) ∧ ns.length ≤ 63 ∧ ∀ H', Q (.bl true) H'
/-- what is held -/
def HeldAt (CS C : Addr) (H : Hp) (t : Addr) : Prop := ∃ (a j fd o s : Addr) (B : Br) (Pp : Pi) (Qf Qo B' : Br) (P' : Pi), H t = some (.tup [.ref a, .ref j, .ref fd, .ref o, .ref s]) ∧ H a = some (.dK (bk B)) ∧ H j = some (.dT (pt Pp)) ∧ H fd = some (.dK (bk Qf)) ∧ H o = some (.dK (bk Qo)) ∧ Good B Pp ∧ Tbl B Qf ∧ Tbl B Qo ∧
  B'.Perm B ∧ sortedS (nms B') = true ∧ P'.Perm Pp ∧ SrtP P' ∧ StandAt CS C H s B' P' (fill B' Qf) (fill B' Qo)
theorem HeldAt.nl {CS C : Addr} {H H' : Hp} {t : Addr} (h : HeldAt CS C H t) (k : NL H H') : HeldAt CS C H' t := by
  obtain ⟨a, j, fd, o, s, B, Pp, Qf, Qo, B', P', h1, h2, h3, h4, h5, g, t1, t2, p1, p2, p3, p4, S⟩ := h
  exact ⟨a, j, fd, o, s, B, Pp, Qf, Qo, B', P', k _ _ h1 (fun l e => by cases e), k.dk h2, k.dt h3, k.dk h4, k.dk h5, g, t1, t2, p1, p2, p3, p4, S.nl k⟩
theorem fill_congr {B Q1 Q2 : Br} (h : ∀ z ∈ nms B, val0 Q1 z = val0 Q2 z) : fill B Q1 = fill B Q2 := by
  unfold fill
  exact List.map_congr_left fun z hz => by rw [h z hz]
theorem fill_perm {B B' : Br} (h : B.Perm B') (Qd : Br) : (fill B Qd).Perm (fill B' Qd) := (h.map Prod.fst).map _
theorem fill_nil_val {z : Str} : val0 ([] : Br) z = 0 := rfl
theorem tbl_nil {B : Br} : Tbl B [] := ⟨List.nodup_nil, fun y hy => absurd hy List.not_mem_nil⟩
theorem st_alike {B B2 : Br} {P P2 : Pi} {Q W : Br} (g : Good B P) (pB : B.Perm B2) (pP : P.Perm P2) : stSame B P (fill B Q) (fill B W) B2 P2 (fill B2 Q) (fill B2 W) = true := by
  have n1 : ∀ X : Br, (nms (fill B X)).Nodup := fun X => by rw [fill_nms]; exact g.wf.nb
  have e1 : Rl.sameD (bk (fill B Q)) (bk (fill B2 Q)) = true := sameD_perm (bk_nd (n1 Q)) ((fill_perm pB Q).map _)
  have e2 : Rl.sameD (bk (fill B W)) (bk (fill B2 W)) = true := sameD_perm (bk_nd (n1 W)) ((fill_perm pB W).map _)
  unfold stSame
  rw [netSame_perm g.wf.nb g.wf.np pB pP, e1, e2]; rfl
/-- [true for each] -/
theorem trues_it {K : PySem.W.Frag} {xs : List V} {e D : Addr} {H1 : Hp} {σ : L2.St} {te : TE} {j : Nat} {Qd : Hp → Prop} (ln : xs.length ≤ 900) (he : H1 e = some (.lst xs)) (nD : H1 D = none)
    (hw : ∀ v : V, wipe ((wipe σ [j]).set j (some v)) [j] = wipe σ [j])
    (ht : ∀ (v : V) (H2 : Hp) (R : V → Hp → Prop), v ∈ xs → Same H1 H2 → (∀ H3, Same H2 H3 → R (.bl true) H3) → te ((wipe σ [j]).set j (some v)) H2 R)
    (hd : ∀ H2, H2 D = some (.lst ((List.replicate xs.length true).map V.bl)) → Same H1 H2 → Qd H2) :
    ∃ W : Nat → Nat → Hp → Prop, (∃ m, W 0 m (upd H1 D (.lst []))) ∧ ∀ i m H, W i m H →
      ((Itl K e).stop i H ∧ Qd H) ∨ ((Itl K e).go i H ∧ ∃ Nx : Hp → Prop, (∀ H', Nx H' → ∃ m', m' < m ∧ W (i + 1) m' H') ∧
        ∀ x H', (Itl K e).yld i H x H' → gName j x (wipe σ [j]) H' fun σ2 H2 => wipe σ2 [j] = wipe σ [j] ∧ tYes σ2 H2 fun b H3 => if b = true then te σ2 H3 fun y H4 => ∃ acc, H4 D = some (.lst acc) ∧ acc.length < sizeLine ∧ Nx (upd H4 D (.lst (acc ++ [y]))) else Nx H3) := by
  refine lc_it (walk_list (K := K) (a := e) (xs := xs)) (fun i H2 => H2 D = some (.lst ((List.replicate i true).map V.bl)) ∧ Same H1 H2) ⟨upd_same, same_new nD⟩ (fun i H2 _ h => SqL.of (h.2 e _ he)) ?_ ?_
  · rintro i x H0 H2 hi ⟨hD, sm⟩ ⟨e2, hx⟩
    subst e2
    refine ⟨hw x, ht x H2 _ (List.mem_of_getElem? hx) sm fun H3 s3 => ⟨_, s3 D _ hD, ?_, ?_, ?_⟩⟩
    · rw [List.length_map, List.length_replicate]
      exact small1000 (by omega)
    · rw [upd_same, List.replicate_succ', List.map_append]; rfl
    · exact fun c o ec => by
        have nb : c ≠ D := ne_of_none ec nD
        rw [upd_ne nb]; exact s3 c o (sm c o ec)
  · rintro H2 ⟨hD, sm⟩
    exact hd H2 hD sm
/-- Stand(net), the net made -/
theorem st_mk1 {CS C n : Addr} {H : Hp} {B' : Br} {P' : Pi} {Q : Addr → Hp → Prop} {E : XK} (N : NetAt C H n B' P') (g' : Good B' P')
    (q : ∀ (s : Addr) (H' : Hp), Same H H' → H s = none → StandAt CS C H' s B' P' (fill B' []) (fill B' []) → Q s H') :
    ∀ x dx, H x = none → H dx = none → dx ≠ x → spSInit CS C [.ref x, .ref n, .non, .non] (upd (upd H dx (.own x)) x (.ins CS dx [])) (fun v H2 => v = .non ∧ Q x H2) E := by
  intro x2 dx2 nx2 ndx2 nex2
  have s9 : Same H (upd (upd H dx2 (.own x2)) x2 (.ins CS dx2 [])) := fun y o e => by
    rw [upd_ne (ne_of_none e nx2), upd_ne (ne_of_none e ndx2)]; exact e
  refine ⟨x2, dx2, n, .non, .non, B', P', [], [], rfl, upd_same, N.same s9, g', ⟨.inl ⟨rfl, rfl⟩, List.nodup_nil, Nat.zero_le _, fun y hy => absurd hy List.not_mem_nil⟩, ⟨.inl ⟨rfl, rfl⟩, List.nodup_nil, Nat.zero_le _, fun y hy => absurd hy List.not_mem_nil⟩, fun H9 SA W9 kp9 => ⟨rfl, ?_⟩⟩
  exact q x2 H9 (fun y o e => kp9 y o (s9 y o e) (ne_of_none e nx2)) nx2 SA
/-- a new thing is no part of a stand -/
theorem offS_new {CS C s a : Addr} {H : Hp} {B : Br} {Pp : Pi} {U W : Br} (S : StandAt CS C H s B Pp U W) (n : H a = none) : OffS CS C H s a := by
  obtain ⟨dx, m, d1, d2, hs, N, h1, h2⟩ := S.at_
  obtain ⟨dxn, e1, e2, hn, g1, g2, ⟨ls, g3, _⟩, ⟨ls2, g4, _⟩⟩ := N.at_
  exact ⟨dx, m, d1, d2, hs, Ne.symm (ne_of_none h1 n), Ne.symm (ne_of_none h2 n), dxn, e1, e2, hn, Ne.symm (ne_of_none g1 n), Ne.symm (ne_of_none g2 n), Ne.symm (ne_of_none g3 n), Ne.symm (ne_of_none g4 n)⟩
theorem skp {H H2 H3 : Hp} {p : Addr} (s : Same H H2) (n : H p = none) (k : Kp p H2 H3) : Same H H3 := fun b o e => k b o (ne_of_none e n) (s b o e)
theorem PT_lit : PT = 10000000000000000000000000000000000000000000000000000000000000000 := by rw [PT_eq]; decide +kernel
section
variable {P : Program} {w : World} {K : PySem.W.Frag} {mg : Str → Option Value} {base : Heap}
theorem scLaw : FnScope ["_law_script", "_law_held", "_law_k", "_law_pot_here", "_law_wide", "_law_joins", "_law_fed", "_law_often", "_law_some_here", "_law_more_here", "_law_one", "_law_fewer", "_law_other", "_law_table", "_law_beside", "_law_row", "_law_two"] ["_law_script"] (defScope sLaw) := ⟨rfl, rfl, rfl, by decide +kernel, rfl, by decide +kernel, by decide +kernel⟩
theorem ok_law {f f_pot f_lnet f_some f_otherw f_isTold f_others f_unlike f_snet f_pours f_counts f_waters C CS : Addr} {fd fd_pot fd_lnet fd_some fd_otherw fd_isTold fd_others fd_unlike fd_snet fd_pours fd_counts fd_waters : FuncData} {f_sRepr f_sEq f_sI f_nI : Addr} {fd_sRepr fd_sEq fd_sI fd_nI : FuncData} {dsNet2 : List Value} {dsStand3 : List Value} {dsStand1 : List Value} (F : Fun K "law" "law" sLaw f fd) (T : TxN K mg C) (TS : TxS K mg CS)
    (G_sRepr : Rl.FnG P w K mg base CX0 3 f_sRepr fd_sRepr ["self"] (spSRepr CS C)) (b_sRepr : Binds K fd_sRepr ["self"] []) (i_sr : PySem.W.findIn K (.ref CS) "__repr__" = some (some (.ref f_sRepr))) (j_sr : PySem.W.isFn K (.ref f_sRepr) = true)
    (m_sEq : Meth K CS "__eq__" f_sEq) (G_sEq : FnOk P w K mg base CX0 2 f_sEq fd_sEq ["self", "other"] (Rl.spEqY (StY K CS C))) (b_sEq : Binds K fd_sEq ["self", "other"] []) (IC : C8.InsC K C) (ICS : C8.InsC K CS) (nk_CS : Rl.NoKd K CS) (kb_sI : KBn K fd_sI ["self", "net", "poured", "counts"] 1 ["counts", "net", "poured"] (Rl.gPick [1, 2, 0]) (Rl.gPickV [1, 2, 0]))
    (F_pot : Fun K "_law_pot" "_law_pot" sPot f_pot fd_pot) (G_pot : FnOk P w K mg base CX0 1 f_pot fd_pot ["_law_script", "_law_k"] (spPot K)) (b_pot : Binds K fd_pot ["_law_script", "_law_k"] []) (g_pot : mg "_law_pot" = some (.ref f_pot))
    (F_lnet : Fun K "_law_net" "_law_net" sNet f_lnet fd_lnet) (G_lnet : FnOk P w K mg base CX0 3 f_lnet fd_lnet ["_law_pot_here", "_law_most", "_law_high"] spNet) (b_lnet : Binds K fd_lnet ["_law_pot_here", "_law_most", "_law_high"] []) (g_lnet : mg "_law_net" = some (.ref f_lnet))
    (F_some : Fun K "_law_some" "_law_some" sSome f_some fd_some) (G_some : FnOk P w K mg base CX0 2 f_some fd_some ["_law_pot_here", "_law_wide", "_law_far"] spSome) (b_some : Binds K fd_some ["_law_pot_here", "_law_wide", "_law_far"] []) (g_some : mg "_law_some" = some (.ref f_some))
    (F_otherw : Fun K "_law_otherwise" "_law_otherwise" s_law_otherwise f_otherw fd_otherw) (G_otherw : FnOk P w K mg base CX0 2 f_otherw fd_otherw ["_law_pot_here", "_law_wide", "_law_given"] spOtherw) (b_otherw : Binds K fd_otherw ["_law_pot_here", "_law_wide", "_law_given"] []) (g_otherw : mg "_law_otherwise" = some (.ref f_otherw))
    (MN : Mk K C f_nI) (G_nI : FnOk P w K mg base CX0 5 f_nI fd_nI ["self", "brims", "pipes"] (spNInit C))
    (b_n : Binds K fd_nI ["self", "brims", "pipes"] dsNet2) (v_n : Vals [] dsNet2)
    (MS : Mk K CS f_sI) (G_sI : FnOk P w K mg base CX0 5 f_sI fd_sI ["self", "net", "poured", "counts"] (spSInit CS C))
    (b_s3 : Binds K fd_sI ["self", "net", "poured", "counts"] dsStand3) (v_s3 : Vals [] dsStand3)
    (F_isTold : Fun K "_law_is_told" "_law_is_told" sIsTold f_isTold fd_isTold) (G_isTold : Rl.FnG P w K mg base CX0 7 f_isTold fd_isTold ["_law_wide", "_law_joins", "_law_fed", "_law_often", "_law_stand"] (spIsTold CS C)) (b_isTold : Binds K fd_isTold ["_law_wide", "_law_joins", "_law_fed", "_law_often", "_law_stand"] []) (g_isTold : mg "_law_is_told" = some (.ref f_isTold))
    (F_others : Fun K "_law_others" "_law_others" s_law_others f_others fd_others) (G_others : FnOk P w K mg base CX0 7 f_others fd_others ["_law_wide", "_law_joins", "_law_fed", "_law_often"] (spOthers CS C)) (b_others : Binds K fd_others ["_law_wide", "_law_joins", "_law_fed", "_law_often"] []) (g_others : mg "_law_others" = some (.ref f_others))
    (F_unlike : Fun K "_law_unlike" "_law_unlike" s_law_unlike f_unlike fd_unlike) (G_unlike : FnOk P w K mg base CX0 3 f_unlike fd_unlike ["_law_one", "_law_other"] (spUnlike K CS C)) (b_unlike : Binds K fd_unlike ["_law_one", "_law_other"] []) (g_unlike : mg "_law_unlike" = some (.ref f_unlike))
    (m_snet : Meth K CS "net" f_snet) (G_snet : FnOk P w K mg base CX0 1 f_snet fd_snet ["self"] (spSNet CS C)) (b_snet : Binds K fd_snet ["self"] [])
    (m_pours : Meth K CS "pours" f_pours) (G_pours : FnOk P w K mg base CX0 1 f_pours fd_pours ["self"] (spPours CS C)) (b_pours : Binds K fd_pours ["self"] [])
    (m_counts : Meth K CS "counts" f_counts) (G_counts : FnOk P w K mg base CX0 1 f_counts fd_counts ["self"] (spCounts CS C)) (b_counts : Binds K fd_counts ["self"] [])
    (m_waters : Meth K CS "waters" f_waters) (G_waters : FnOk P w K mg base CX0 7 f_waters fd_waters ["self"] (spWaters CS C)) (b_waters : Binds K fd_waters ["self"] [])
    (b_s1 : Binds K fd_sI ["self", "net", "poured", "counts"] dsStand1) (v_s1 : Vals [.non, .non] dsStand1)
    (x_all : mg "all" = none)
    (x_len : mg "len" = none)
    (x_max : mg "max" = none)
    (x_min : mg "min" = none)
    (x_range : mg "range" = none)
    (x_repr : mg "repr" = none) : Rl.FnG P w K mg base CX0 8 f fd ["_law_script"] (spLaw K) := by
  refine Rl.okG F scLaw (fun vs H Q E h => ?_) (fun cdv A outer s H vs Q E hg hr h => ?_)
  · obtain ⟨a, ns, rfl, _⟩ := h
    rfl
  · obtain ⟨a0, ns, rfl, hS, hlen, q⟩ := h
    have hr1 := hr.mono (show 1 ≤ 7 by decide)
    have hr2 := hr.mono (show 2 ≤ 7 by decide)
    have hr3 := hr.mono (show 3 ≤ 7 by decide)
    have hr4 := hr.mono (show 4 ≤ 7 by decide)
    have hr6 := hr.mono (show 6 ≤ 7 by decide)
    refine ⟨_, (pss_cons (ps_set (i := 1) scLaw.nd rfl (by first | exact .inl rfl | exact .inr rfl) (pe_lst pa_nil))
      (pss_cons (ps_for PassesOwn.never rfl (pi_range1 (by rfl) x_range (pa_cons (pe_callB (call_max2 rfl) (by rfl) x_max (by decide +kernel) (pa_cons pe_int (pa_cons (pe_callB (call_min2 rfl) (by rfl) x_min (by decide +kernel) (pa_cons pe_int (pa_cons (pe_callB call_len_seq (by rfl) x_len PySem.boot_len (pa_cons (pv 0) pa_nil)) pa_nil))) pa_nil))) pa_nil)) (pg_name (i := 2) scLaw.nd rfl (by first | exact .inl rfl | exact .inr rfl))
        (pss_cons (ps_set (i := 3) scLaw.nd rfl (by first | exact .inl rfl | exact .inr rfl) (pe_call G_pot hr1 (by rfl) g_pot F_pot.kp b_pot .nil pass0 (pa_cons (pv 0) (pa_cons (pv 2) pa_nil))))
        (pss_cons (ps_asg (pe_call G_lnet hr3 (by rfl) g_lnet F_lnet.kp b_lnet .nil pass0 (pa_cons (pv 3) (pa_cons pe_int (pa_cons pe_int pa_nil)))) (pg_tup rfl (pgs_cons (pg_name (i := 4) scLaw.nd rfl (by first | exact .inl rfl | exact .inr rfl)) (pgs_cons (pg_name (i := 5) scLaw.nd rfl (by first | exact .inl rfl | exact .inr rfl)) pgs_nil))))
        (pss_cons (ps_par (i := 6) (j := 7) rfl scLaw.nd rfl rfl (by decide) rfl rfl (pa_cons (pe_call G_some hr2 (by rfl) g_some F_some.kp b_some .nil pass0 (pa_cons (pv 3) (pa_cons (pv 4) (pa_cons (pe_op op_sub (pe_op op_pow pe_int pe_int) pe_int) pa_nil)))) (pa_cons (pe_call G_some hr2 (by rfl) g_some F_some.kp b_some .nil pass0 (pa_cons (pv 3) (pa_cons (pv 4) (pa_cons (pe_op op_sub (pe_op op_pow pe_int pe_int) pe_int) pa_nil)))) pa_nil)) (by rfl))
        (pss_cons (ps_par (i := 8) (j := 9) rfl scLaw.nd rfl rfl (by decide) rfl rfl (pa_cons (pe_call G_otherw hr2 (by rfl) g_otherw F_otherw.kp b_otherw .nil pass0 (pa_cons (pv 3) (pa_cons (pv 4) (pa_cons (pv 6) pa_nil)))) (pa_cons (pe_call G_otherw hr2 (by rfl) g_otherw F_otherw.kp b_otherw .nil pass0 (pa_cons (pv 3) (pa_cons (pv 4) (pa_cons (pv 7) pa_nil)))) pa_nil)) (by rfl))
        (pss_cons (ps_set (i := 10) scLaw.nd rfl (by first | exact .inl rfl | exact .inr rfl) (pe_make MS G_sI hr6 (by rfl) TS.mgC b_s3 v_s3 pass0 (pa_cons (pe_make MN G_nI hr6 (by rfl) T.mgC b_n v_n pass0 (pa_cons (pv 4) (pa_cons (pv 5) pa_nil))) (pa_cons (pv 8) (pa_cons (pv 9) pa_nil)))))
        (pss_cons (ps_set (i := 11) scLaw.nd rfl (by first | exact .inl rfl | exact .inr rfl) (pe_call G_otherw hr2 (by rfl) g_otherw F_otherw.kp b_otherw .nil pass0 (pa_cons (pv 3) (pa_cons (pv 4) (pa_cons (pv 7) pa_nil)))))
        (pss_cons (ps_set (i := 12) scLaw.nd rfl (by first | exact .inl rfl | exact .inr rfl) (pe_makeK0 MS G_sI hr6 (by rfl) TS.mgC kb_sI pass0 (pk_cons (pv 11) (pk_cons (pe_make MN G_nI hr6 (by rfl) T.mgC b_n v_n pass0 (pa_cons (pv 4) (pa_cons (pv 5) pa_nil))) (pk_cons (pe_call G_otherw hr2 (by rfl) g_otherw F_otherw.kp b_otherw .nil pass0 (pa_cons (pv 3) (pa_cons (pv 4) (pa_cons (pv 6) pa_nil)))) pk_nil)))))
        (pss_cons (ps_if (PW.pt (pw_or (pt_not (pt_cmpR (Rl.op_eqO G_sEq m_sEq.at_ m_sEq.fn nk_CS b_sEq pass0 hr2) (pv 10) (pv 12) (nomark _))) (pw_or (pt_not (pt_cmpR (Rl.op_eqO G_sEq m_sEq.at_ m_sEq.fn nk_CS b_sEq pass0 hr2) (pv 12) (pv 10) (nomark _))) (pw_or1 (pt_not (pt_val (Rl.pe_callG G_isTold hg hr (by rfl) g_isTold F_isTold.kp b_isTold .nil pass0 (pa_cons (pv 4) (pa_cons (pv 5) (pa_cons (pv 6) (pa_cons (pv 7) (pa_cons (pv 10) pa_nil)))))))))))) (pss_one (ps_ret pe_bl)) pss_nil)
        (pss_cons (ps_if (pt_not (pt_val (pe_callB (cr_all rfl) (by rfl) x_all (by decide +kernel) (pa_cons (pe_lc (own := [("_law_two", 16)]) (g := gName 16) (tt := tYes) (te := (tCall (spUnlike K CS C) [] E0 (tCons (tVar 10) (tCons (tVar 16) tNil)))) rfl scLaw.nd (pi_list (pe_call G_others hr (by rfl) g_others F_others.kp b_others .nil pass0 (pa_cons (pv 4) (pa_cons (pv 5) (pa_cons (pv 6) (pa_cons (pv 7) pa_nil)))))) (blkOk_by (N := ["_law_script", "_law_held", "_law_k", "_law_pot_here", "_law_wide", "_law_joins", "_law_fed", "_law_often", "_law_some_here", "_law_more_here", "_law_one", "_law_fewer", "_law_other", "_law_table", "_law_beside", "_law_row", "_law_two"]) (sc := defScope sLaw) (by decide +kernel)) (fun _ _ _ _ _ => (pg_name (i := 16) scLaw.nd rfl (Or.inl rfl))) (fun _ _ _ _ _ => pts_nil) (fun _ _ _ _ _ => (pe_call G_unlike hr3 (by rfl) g_unlike F_unlike.kp b_unlike .nil pass0 (pa_cons (pv 10) (pa_cons (pv 16) pa_nil))))) pa_nil)))) (pss_one (ps_ret pe_bl)) pss_nil)
        (pss_cons (ps_if (pt_not (pt_val (pe_callB (cr_all rfl) (by rfl) x_all (by decide +kernel) (pa_cons (pe_lc (own := [("_law_two", 16)]) (g := gName 16) (tt := tYes) (te := (tCall (spUnlike K CS C) [] E0 (tCons (tVar 10) (tCons (tVar 16) tNil)))) rfl scLaw.nd (pi_list (pe_lst (pa_cons pe_non (pa_cons pe_int (pa_cons (pe_tup pa_nil) (pa_cons (pe_callB (r := Rl.rReprO CS (spSRepr CS C) E0) (Rl.call_reprO G_sRepr hg hr4 i_sr j_sr b_sRepr pass0) (by rfl) x_repr (by decide +kernel) (pa_cons (pv 10) pa_nil)) (pa_cons (pe_meth0 (pv 10) TS.cl m_snet G_snet hr1 b_snet .nil pass0) (pa_cons (pe_meth0 (pv 10) TS.cl m_pours G_pours hr1 b_pours .nil pass0) pa_nil)))))))) (blkOk_by (N := ["_law_script", "_law_held", "_law_k", "_law_pot_here", "_law_wide", "_law_joins", "_law_fed", "_law_often", "_law_some_here", "_law_more_here", "_law_one", "_law_fewer", "_law_other", "_law_table", "_law_beside", "_law_row", "_law_two"]) (sc := defScope sLaw) (by decide +kernel)) (fun _ _ _ _ _ => (pg_name (i := 16) scLaw.nd rfl (Or.inl rfl))) (fun _ _ _ _ _ => pts_nil) (fun _ _ _ _ _ => (pe_call G_unlike hr3 (by rfl) g_unlike F_unlike.kp b_unlike .nil pass0 (pa_cons (pv 10) (pa_cons (pv 16) pa_nil))))) pa_nil)))) (pss_one (ps_ret pe_bl)) pss_nil)
        (pss_cons (ps_for PassesOwn.never rfl (pi_list (pe_lst (pa_cons (pv 8) (pa_cons (pv 9) (pa_cons (pe_meth0 (pv 10) TS.cl m_pours G_pours hr1 b_pours .nil pass0) (pa_cons (pe_meth0 (pv 10) TS.cl m_counts G_counts hr1 b_counts .nil pass0) (pa_cons (pe_meth0 (pv 10) TS.cl m_waters G_waters hr b_waters .nil pass0) pa_nil))))))) (pg_name (i := 13) scLaw.nd rfl (by first | exact .inl rfl | exact .inr rfl))
          (pss_one (ps_expr (pe_dclear (pv 13)))))
        (pss_cons (ps_set (i := 14) scLaw.nd rfl (by first | exact .inl rfl | exact .inr rfl) (pe_make MS G_sI hr6 (by rfl) TS.mgC b_s3 v_s3 pass0 (pa_cons (pe_make MN G_nI hr6 (by rfl) T.mgC b_n v_n pass0 (pa_cons (pv 4) (pa_cons (pv 5) pa_nil))) (pa_cons (pv 8) (pa_cons (pv 9) pa_nil)))))
        (pss_cons (ps_if (PW.pt (pw_or (pt_not (pt_val (Rl.pe_callG G_isTold hg hr (by rfl) g_isTold F_isTold.kp b_isTold .nil pass0 (pa_cons (pv 4) (pa_cons (pv 5) (pa_cons pe_dnewK (pa_cons pe_dnewK (pa_cons (pv 14) pa_nil)))))))) (pw_or1 (pt_not (pt_cmpR (Rl.op_eqO G_sEq m_sEq.at_ m_sEq.fn nk_CS b_sEq pass0 hr2) (pv 14) (pe_make MS G_sI hr6 (by rfl) TS.mgC b_s1 v_s1 pass0 (pa_cons (pe_make MN G_nI hr6 (by rfl) T.mgC b_n v_n pass0 (pa_cons (pv 4) (pa_cons (pv 5) pa_nil))) pa_nil)) (nomark _)))))) (pss_one (ps_ret pe_bl)) pss_nil)
        (pss_one (ps_expr (pe_bm PySem.F.plainAttrs_list PySem.F.slot_list_append PySem.F.type_list_append mt_append (pv 1) (pa_cons (pe_tup (pa_cons (pv 4) (pa_cons (pv 5) (pa_cons (pv 6) (pa_cons (pv 7) (pa_cons (pv 10) pa_nil)))))) pa_nil))))))))))))))))))
      (pss_one (ps_ret (pe_callB (cr_all rfl) (by rfl) x_all (by decide +kernel) (pa_cons (pe_lc (own := [("_law_row", 15)]) (g := gName 15) (tt := tYes) (te := (tCall (spIsTold CS C) [] E0 (tCons (tOp (rIxT K) (tVar 15) (tC (.int 0))) (tCons (tOp (rIxT K) (tVar 15) (tC (.int 1))) (tCons (tOp (rIxT K) (tVar 15) (tC (.int 2))) (tCons (tOp (rIxT K) (tVar 15) (tC (.int 3))) (tCons (tOp (rIxT K) (tVar 15) (tC (.int 4))) tNil))))))) rfl scLaw.nd (pi_list (pv 1)) (blkOk_by (N := ["_law_script", "_law_held", "_law_k", "_law_pot_here", "_law_wide", "_law_joins", "_law_fed", "_law_often", "_law_some_here", "_law_more_here", "_law_one", "_law_fewer", "_law_other", "_law_table", "_law_beside", "_law_row", "_law_two"]) (sc := defScope sLaw) (by decide +kernel)) (fun _ _ _ _ _ => (pg_name (i := 15) scLaw.nd rfl (Or.inl rfl))) (fun _ _ _ _ _ => pts_nil) (fun _ _ _ _ _ => (Rl.pe_callG G_isTold hg hr (by rfl) g_isTold F_isTold.kp b_isTold .nil pass0 (pa_cons (pe_ix ix_tup (pv 15) pe_int (fun _ _ => rfl)) (pa_cons (pe_ix ix_tup (pv 15) pe_int (fun _ _ => rfl)) (pa_cons (pe_ix ix_tup (pv 15) pe_int (fun _ _ => rfl)) (pa_cons (pe_ix ix_tup (pv 15) pe_int (fun _ _ => rfl)) (pa_cons (pe_ix ix_tup (pv 15) pe_int (fun _ _ => rfl)) pa_nil)))))))) pa_nil)))))), ?_⟩
    have tS : ∀ {H' : Hp} {s2 : Addr} {dx : Addr} {fs}, H' s2 = some (.ins CS dx fs) → TyOf K H' (.ref s2) (.ref CS) := fun h => .ins h ICS.cl ICS.ha ICS.hn ICS.htk ICS.hm
    refine ⟨Nat.zero_le _, fun D nD => ?_⟩
    have s0 : Same H (upd H D (.lst [])) := same_new nD
    refine ⟨.ref a0, rfl, a0, _, rfl, .inl (s0.seq hS), 6, _, rfl, 2, _, rfl, _, rfl, ?_, ?_, ?_⟩
    · split <;> split <;> omega
    · split <;> split <;> omega
    refine for_it walk_range (fun i σ H2 => ∃ (ts : List Addr) (y2 y3 y4 y5 y6 y7 y8 y9 y10 y11 y12 y13 y14 : Option V), σ = [some (.ref a0), some (.ref D), y2, y3, y4, y5, y6, y7, y8, y9, y10, y11, y12, y13, y14, none, none] ∧ Same H H2 ∧ H2 D = some (.lst (ts.map V.ref)) ∧ ts.length ≤ i ∧ ∀ t ∈ ts, HeldAt CS C H2 t)
      ⟨[], none, none, none, none, none, none, none, none, none, none, none, none, none, rfl, s0, upd_same, Nat.zero_le _, fun t ht => absurd ht List.not_mem_nil⟩ (fun _ _ _ _ _ => trivial) ?_ ?_
    · rintro i x σ H2 H2' hi ⟨ts, y2, y3, y4, y5, y6, y7, y8, y9, y10, y11, y12, y13, y14, rfl, sm, hD, lts, hd⟩ ⟨rfl, rfl⟩
      have hi8 : i < 63 := by
        split at hi <;> split at hi <;> omega
      refine ⟨.ref a0, rfl, .int (0 + (i : Int)), rfl, a0, ns, _, rfl, sm.seq hS, by omega, by omega, fun H3 p s3 np hP3 => ?_⟩
      have npH : H p = none := sm.free np
      have hDp : D ≠ p := ne_of_none hD np
      have sm3 := sm.trans s3
      -- the net
      refine ⟨.ref p, rfl, p, 12, 60, rfl, hP3, by decide, by decide, by decide, by decide, fun t a j B Pp H4 k4 hP4 nt na nj ht ha4 hj4 good => ?_⟩
      refine ⟨t, [.ref a, .ref j], rfl, SqT.of ht, rfl, .ref a, [.ref j], rfl, .ref j, [], rfl, rfl, ?_⟩
      have wf := good.wf
      have lB := wf.lb
      have n24 : NL H2' H4 := (NL.of_same s3).trans (NL.of_kp hP3 k4)
      have sm4 := skp sm3 npH k4
      have hD4 := k4 D _ hDp (s3 D _ hD)
      -- fed, often
      have tblOf : ∀ {Qd : Br} {far : Int}, far ≤ PT → (nms Qd).Nodup → (∀ x ∈ Qd, x.1 ∈ nms B ∧ 0 ≤ x.2 ∧ (x.2 < 400 ∨ x.2 < far)) → Tbl B Qd := fun {Qd far} hf n h => ⟨n, fun y hy => ⟨(h y hy).1, (h y hy).2.1, by
        have p4 : (400 : Int) ≤ PT := by rw [PT_eq]; decide
        rcases (h y hy).2.2 with c | c <;> omega⟩⟩
      refine ⟨.ref p, rfl, .ref a, rfl, 10, 40, rfl, rfl, ⟨by decide, by decide, by decide⟩, _, 1, rfl, rfl, p, a, _, B, rfl, hP4, ha4, lB, wf.nb, by decide, by decide, fun fd' Qf H5 k5 hP5 nf hf5 ndf okf => ?_⟩
      have n45 := NL.of_kp hP4 k5
      have ha5 := n45.dk ha4
      have tf : Tbl B Qf := tblOf (by rw [PT_eq]; decide) ndf okf
      refine ⟨.ref p, rfl, .ref a, rfl, 10, 40, rfl, rfl, ⟨by decide, by decide, by decide⟩, _, 1, rfl, rfl, p, a, _, B, rfl, hP5, ha5, lB, wf.nb, by decide, by decide, fun o Qo H6 k6 hP6 no ho6 ndo oko => ?_⟩
      have n56 := NL.of_kp hP5 k6
      have to_ : Tbl B Qo := tblOf (by rw [PT_eq]; decide) ndo oko
      refine ⟨_, _, rfl, ?_⟩
      have n46 := n45.trans n56
      have ha6 := n46.dk ha4
      have hf6 := n56.dk hf5
      -- otherwise
      refine ⟨.ref p, rfl, .ref a, rfl, .ref fd', rfl, p, a, fd', B, Qf, rfl, hP6, ha6, hf6, wf.nb, lB, fun z => (tf.val z).1, fun H7 r R2 k7 hP7 nr hr7 ndr subr valr => ?_⟩
      have n67 := NL.of_kp hP6 k7
      refine ⟨.ref p, rfl, .ref a, rfl, .ref o, rfl, p, a, o, B, Qo, rfl, hP7, n67.dk ha6, n67.dk ho6, wf.nb, lB, fun z => (to_.val z).1, fun H8 m M2 k8 hP8 nm hm8 ndm subm valm => ?_⟩
      have n78 := NL.of_kp hP7 k8
      refine ⟨_, _, rfl, ?_⟩
      have n68 := n67.trans n78
      have n48 := n46.trans n68
      have ha8 := n68.dk ha6
      have hj8 := n48.dt hj4
      have hf8 := n68.dk hf6
      have ho8 := n68.dk ho6
      have hr8 := n78.dk hr7
      have sm8 : Same H H8 := skp (skp (skp (skp sm4 npH k5) npH k6) npH k7) npH k8
      have hD8 := k8 D _ hDp (k7 D _ hDp (k6 D _ hDp (k5 D _ hDp hD4)))
      have n28 := n24.trans n48
      have okOf : ∀ {Qd Q2 : Br}, Tbl B Qd → (nms Q2).Nodup → (∀ y ∈ Q2, y.1 ∈ nms B) → (∀ z ∈ nms B, val0 Q2 z = val0 Qd z) → ∀ y ∈ Q2, y.1 ∈ nms B ∧ 0 ≤ y.2 := fun {Qd Q2} tb n1 h1 h2 y hy => ⟨h1 y hy, by
        have e1 := val0_of_mem n1 (show (y.1, y.2) ∈ Q2 from hy)
        rw [← e1, h2 _ (h1 y hy)]
        exact (tb.val y.1).1⟩
      have okr := okOf tf ndr subr valr
      have okm := okOf to_ ndm subm valm
      -- one
      refine ⟨.ref a, rfl, .ref j, rfl, ?_⟩
      refine net_mkO ha8 hj8 good fun n3 B3 P3 H9 s89 nn3 N3 pB3 pP3 so3 st3 of3 => ?_
      refine ⟨.ref r, rfl, .ref m, rfl, ?_⟩
      have g3 : Good B3 P3 := good.perm pB3.symm pP3.symm
      have mem3 : ∀ {z : Str}, z ∈ nms B3 → z ∈ nms B := fun h => (pB3.map Prod.fst).mem_iff.mp h
      refine st_mk N3 g3 (s89 _ _ hr8) (s89 _ _ hm8) ndr (tr_el pB3 okr) ndm (tr_el pB3 okm) fun s10 H10 s910 ns10 S10 of10 => ?_
      have ef : fill B3 R2 = fill B3 Qf := fill_congr fun z hz => valr z (mem3 hz)
      have eo : fill B3 M2 = fill B3 Qo := fill_congr fun z hz => valm z (mem3 hz)
      rw [ef, eo] at S10
      have s810 := s89.trans s910
      have offr : OffS CS C H10 s10 r := of10 r _ (s89 _ _ hr8) (of3 r _ hr8)
      have offm : OffS CS C H10 s10 m := of10 m _ (s89 _ _ hm8) (of3 m _ hm8)
      have hP10 := hP8.same s810
      -- fewer
      refine ⟨.ref p, rfl, .ref a, rfl, .ref o, rfl, p, a, o, B, Qo, rfl, hP10, s810 _ _ ha8, s810 _ _ ho8, wf.nb, lB, fun z => (to_.val z).1, fun H11 w W2 k11 hP11 nw hw11 ndw subw valw => ?_⟩
      have n1011 := NL.of_kp hP10 k11
      have n811 := (NL.of_same s810).trans n1011
      -- other
      refine ⟨.ref w, rfl, .ref a, rfl, .ref j, rfl, ?_⟩
      refine net_mkO (n811.dk ha8) (n811.dt hj8) good fun n5 B5 P5 H12 s1112 nn5 N5 pB5 pP5 so5 st5 of5 => ?_
      have n812 := n811.trans (NL.of_same s1112)
      have hP12 := hP11.same s1112
      refine ⟨.ref p, rfl, .ref a, rfl, .ref fd', rfl, p, a, fd', B, Qf, rfl, hP12, n812.dk ha8, n812.dk hf8, wf.nb, lB, fun z => (tf.val z).1, fun H13 v V2 k13 hP13 nv hv13 ndv subv valv => ?_⟩
      have n1213 := NL.of_kp hP12 k13
      have g5 : Good B5 P5 := good.perm pB5.symm pP5.symm
      have mem5 : ∀ {z : Str}, z ∈ nms B5 → z ∈ nms B := fun h => (pB5.map Prod.fst).mem_iff.mp h
      have okw := okOf to_ ndw subw valw
      have okv := okOf tf ndv subv valv
      refine ⟨rfl, rfl, ?_⟩
      refine st_mk (N5.nl n1213) g5 hv13 (n1213.dk (s1112 _ _ hw11)) ndv (tr_el pB5 okv) ndw (tr_el pB5 okw) fun s14 H14 s1314 ns14 S14 of14 => ?_
      have ef5 : fill B5 V2 = fill B5 Qf := fill_congr fun z hz => valv z (mem5 hz)
      have eo5 : fill B5 W2 = fill B5 Qo := fill_congr fun z hz => valw z (mem5 hz)
      rw [ef5, eo5] at S14
      have n1014 : NL H10 H14 := ((n1011.trans (NL.of_same s1112)).trans n1213).trans (NL.of_same s1314)
      have S10' := S10.nl n1014
      have pm35 : B3.Perm B5 := pB3.trans pB5.symm
      have pp35 : P3.Perm P5 := pP3.trans pP5.symm
      obtain ⟨dx10, m10, e10, f10, hs10, _⟩ := id S10'.at_
      obtain ⟨dx14, m14, e14, f14, hs14, _⟩ := id S14.at_
      have al1 := st_alike (Q := Qf) (W := Qo) g3 pm35 pp35
      have al2 := st_alike (Q := Qf) (W := Qo) g5 pm35.symm pp35.symm
      have n814 := (NL.of_same s810).trans n1014
      have ha14 := n814.dk ha8
      have hj14 := n814.dt hj8
      have hf14 := n814.dk hf8
      have ho14 := n814.dk ho8
      have hr14 := n814.dk hr8
      have hm14 := n814.dk hm8
      have offr14 := offr.nl n1014
      have offm14 := offm.nl n1014
      have sm14 : Same H H14 := (skp ((skp (sm8.trans s810) npH k11).trans s1112) npH k13).trans s1314
      have hD14 := s1314 _ _ (k13 D _ hDp (s1112 _ _ (k11 D _ hDp (s810 _ _ hD8))))
      have n214 := n28.trans n814
      have z26 : Same H2' H6 := skp (skp (skp s3 np k4) np k5) np k6
      have z27 := skp z26 np k7
      have z214 : Same H2' H14 := (skp ((skp ((skp z27 np k8).trans s810) np k11).trans s1112) np k13).trans s1314
      have nre : ∀ {b : Addr} {u : HO}, H2' b = some u → b ≠ r ∧ b ≠ m := fun {b u} e => ⟨ne_of_none (z26 _ _ e) nr, ne_of_none (z27 _ _ e) nm⟩
      have nra : a ≠ r ∧ a ≠ m := ⟨ne_of_none ha6 nr, ne_of_none (n67.dk ha6) nm⟩
      have nrj : j ≠ r ∧ j ≠ m := ⟨ne_of_none (n46.dt hj4) nr, ne_of_none (n67.dt (n46.dt hj4)) nm⟩
      have nrf : fd' ≠ r ∧ fd' ≠ m := ⟨ne_of_none hf6 nr, ne_of_none (n67.dk hf6) nm⟩
      have nro : o ≠ r ∧ o ≠ m := ⟨ne_of_none ho6 nr, ne_of_none (n67.dk ho6) nm⟩
      clear n28 n814 n1014 s1314 n1213 n812 n811 n1011 s810 n48 n68 n46 n24
      refine ⟨.ref s10, rfl, .ref s14, rfl, true, s10, dx10, _, hs10, fun H15 x15 => ⟨_, rfl, iteF ?_⟩, .inl ⟨rfl, ⟨.ref CS, tS hs14, by simp [PySem.W.notFirst]⟩, .inl ⟨B3, P3, _, _, s14, B5, P5, _, _, S10', rfl, S14, al1.symm⟩⟩⟩
      refine ⟨.ref s14, rfl, .ref s10, rfl, true, s14, dx14, _, x15 _ _ hs14, fun H16 x16 => ⟨_, rfl, iteF ?_⟩, .inl ⟨rfl, ⟨.ref CS, tS (x15 _ _ hs10), by simp [PySem.W.notFirst]⟩, .inl ⟨B5, P5, _, _, s10, B3, P3, _, _, S14.same x15, rfl, S10'.same x15, al2.symm⟩⟩⟩
      have s1416 : Same H14 H16 := fun b u e => x16 b u (x15 b u e)
      refine ⟨.ref a, rfl, .ref j, rfl, .ref fd', rfl, .ref o, rfl, .ref s10, rfl, a, j, fd', o, s10, B, Pp, Qf, Qo, B3, P3, rfl, s1416 _ _ ha14, s1416 _ _ hj14, s1416 _ _ hf14, s1416 _ _ ho14, good, tf, to_, pB3, so3, pP3, st3, S10'.same s1416, fun H17 s17 => ?_⟩
      refine ⟨true, rfl, iteF ?_⟩
      have s1417 := s1416.trans s17
      have ha17 := s1417 _ _ ha14
      have hj17 := s1417 _ _ hj14
      have hf17 := s1417 _ _ hf14
      have ho17 := s1417 _ _ ho14
      have S17 := S10'.same s1417
      -- the others
      refine ⟨.ref a, rfl, .ref j, rfl, .ref fd', rfl, .ref o, rfl, a, j, fd', o, B, Pp, Qf, Qo, rfl, ha17, hj17, hf17, ho17, good, tf, to_, fun H18 L1 ss s1718 nL1 hL1 lss al => ?_⟩
      refine ⟨L1, rfl, ⟨_, SqL.of hL1⟩, fun D1 nD1 => ?_⟩
      refine trues_it (by rw [List.length_map]; omega) hL1 nD1 (fun _ => rfl) (fun v H2 R mv s2 k => ?_) (fun H19 hD1 s1819 => ?_)
      · obtain ⟨s', ms, rfl⟩ := List.mem_map.mp mv
        obtain ⟨B', P', U', W', S', dif⟩ := (al s' ms).same s2
        obtain ⟨d1, d2⟩ := dif B3 P3 pB3 pP3
        exact ⟨.ref s10, rfl, .ref s', rfl, s10, .ref s', B3, P3, _, _, rfl, S17.same (s1718.trans s2), .inl ⟨s', B', P', U', W', rfl, S', d1, d2⟩, fun H' s => k H' s⟩
      refine ⟨D1, _, rfl, SqL.of hD1, ?_⟩
      rw [all_trues]
      refine ⟨_, rfl, iteF ?_⟩
      have s1719 := s1718.trans s1819
      have S19 := S17.same s1719
      obtain ⟨dx19, m19, e19, f19, hs19, _⟩ := id S19.at_
      -- the odd things
      obtain ⟨fgf, ltf⟩ := tf.fig good pB3
      obtain ⟨fgo, lto⟩ := to_.fig good pB3
      have ndf3 : (nms (fill B3 Qf)).Nodup := by rw [fill_nms]; exact g3.wf.nb
      have ndo3 : (nms (fill B3 Qo)).Nodup := by rw [fill_nms]; exact g3.wf.nb
      refine ⟨line1000 (by show 0 ≤ 1000; decide), fun tp ntp => ?_⟩
      obtain ⟨H20, e20, s1920, htp⟩ : ∃ X, X = upd H19 tp (.tup []) ∧ Same H19 X ∧ X tp = some (.tup []) := ⟨_, rfl, same_new ntp, upd_same⟩
      rw [← e20]
      clear e20
      have S20 := S19.same s1920
      refine ⟨.ref s10, rfl, s10, dx19, _, rfl, s1920 _ _ hs19, s10, B3, P3, fill B3 Qf, fill B3 Qo, rfl, S20, g3, ndf3, fgf, ndo3, fgo, fun H21 s2021 => ?_⟩
      refine ⟨_, rfl, ?_⟩
      have S21 := S20.same s2021
      have hs21 := s2021 _ _ (s1920 _ _ hs19)
      refine ⟨.ref s10, rfl, s10, dx19, _, rfl, hs21, sf_no, s10, _, _, _, _, rfl, S21, fun n21 N21 _ => ?_⟩
      refine ⟨.ref s10, rfl, s10, dx19, _, rfl, hs21, sf_no, s10, _, _, _, _, rfl, S21, ndf3, fgf.len, fun H22 p22 s2122 np22 h22 => ?_⟩
      refine ⟨line1000 (by show 6 ≤ 1000; decide), fun L2 nL2 => ?_⟩
      obtain ⟨xs, exs⟩ : ∃ xs, xs = [V.non, .int 0, .ref tp, .str (standS B3 P3 (fill B3 Qf) (fill B3 Qo)), .ref n21, .ref p22] := ⟨_, rfl⟩
      rw [← exs]
      obtain ⟨H23, e23, s2223, hL2⟩ : ∃ X, X = upd H22 L2 (.lst xs) ∧ Same H22 X ∧ X L2 = some (.lst xs) := ⟨_, rfl, same_new nL2, upd_same⟩
      rw [← e23]
      clear e23
      have s2123 := s2122.trans s2223
      have S23 := S21.same s2123
      refine ⟨L2, rfl, ⟨_, SqL.of hL2⟩, fun D2 nD2 => ?_⟩
      refine trues_it (by rw [exs]; show 6 ≤ 900; decide) hL2 nD2 (fun _ => rfl) (fun v H2 R mv s2 k => ?_) (fun H24 hD2 s2324 => ?_)
      · have S2 := S23.same s2
        have fin : ((∃ (s2 : Addr) (B2 : Br) (P2 : Pi) (U2 W2 : Br), v = .ref s2 ∧ StandAt CS C H2 s2 B2 P2 U2 W2 ∧ stSame B3 P3 (fill B3 Qf) (fill B3 Qo) B2 P2 U2 W2 = false ∧ stSame B2 P2 U2 W2 B3 P3 (fill B3 Qf) (fill B3 Qo) = false) ∨ (∃ T, Rl.Kd H2 v T) ∨ ∃ (n : Addr) (B2 : Br) (P2 : Pi), v = .ref n ∧ NetAt C H2 n B2 P2) := by
          rw [exs] at mv
          simp only [List.mem_cons, List.not_mem_nil, or_false] at mv
          rcases mv with rfl | rfl | rfl | rfl | rfl | rfl
          · exact .inr (.inl ⟨_, .non⟩)
          · exact .inr (.inl ⟨_, .int _⟩)
          · exact .inr (.inl ⟨_, .tup (s2 _ _ (s2123 _ _ (s2021 _ _ htp)))⟩)
          · exact .inr (.inl ⟨_, .str _⟩)
          · exact .inr (.inr ⟨n21, _, _, rfl, (N21.same s2123).same s2⟩)
          · exact .inr (.inl ⟨_, .dK (s2 _ _ (s2223 _ _ h22))⟩)
        exact ⟨.ref s10, rfl, v, rfl, s10, v, B3, P3, _, _, rfl, S2, fin, fun H' s => k H' s⟩
      refine ⟨D2, _, rfl, SqL.of hD2, ?_⟩
      rw [all_trues]
      refine ⟨_, rfl, iteF ?_⟩
      have s1724 : Same H17 H24 := (((s1719.trans s1920).trans s2021).trans s2123).trans s2324
      have s1424 := s1417.trans s1724
      have S24 := S10'.same s1424
      clear S17 S19 S20 S21 S23 s2324 s2123 s2021 s1920 s1719 hs19 hs21 exs hL2 hD2 hD1 hL1
      obtain ⟨dx24, m24, e24, f24, hs24, _⟩ := id S24.at_
      -- the tables
      refine ⟨.ref r, rfl, .ref m, rfl, ?_⟩
      refine ⟨.ref s10, rfl, s10, dx24, _, rfl, hs24, sf_no, s10, _, _, _, _, rfl, S24, ndf3, fgf.len, fun H25 p25 s2425 np25 h25 => ?_⟩
      have S25 := S24.same s2425
      have off25 : OffS CS C H25 s10 p25 := (offS_new S24 np25).same s2425
      refine ⟨.ref s10, rfl, s10, dx24, _, rfl, s2425 _ _ hs24, sf_no, s10, _, _, _, _, rfl, S25, ndo3, fgo.len, fun H26 p26 s2526 np26 h26 => ?_⟩
      have S26 := S25.same s2526
      have off26 : OffS CS C H26 s10 p26 := (offS_new S25 np26).same s2526
      have s2426 := s2425.trans s2526
      refine ⟨.ref s10, rfl, s10, dx24, _, rfl, s2426 _ _ hs24, sf_no, s10, B3, P3, _, _, rfl, S26, g3, fill_full _ _, fill_full _ _, fun H27 p27 s2627 np27 h27 => ?_⟩
      have S27 := S26.same s2627
      have off27 : OffS CS C H27 s10 p27 := (offS_new S26 np27).same s2627
      refine ⟨line1000 (by show 5 ≤ 1000; decide), fun L3 nL3 => ?_⟩
      obtain ⟨tabs, etabs⟩ : ∃ tabs, tabs = [r, m, p25, p26, p27] := ⟨_, rfl⟩
      rw [show [V.ref r, V.ref m, V.ref p25, V.ref p26, V.ref p27] = tabs.map V.ref by rw [etabs]; rfl]
      obtain ⟨H28, e28, s2728, hL3⟩ : ∃ X, X = upd H27 L3 (.lst (tabs.map V.ref)) ∧ Same H27 X ∧ X L3 = some (.lst (tabs.map V.ref)) := ⟨_, rfl, same_new nL3, upd_same⟩
      rw [← e28]
      clear e28
      have s2428 := (s2426.trans s2627).trans s2728
      have s1428 := s1424.trans s2428
      have S28 := S27.same s2728
      have offs28 : ∀ t ∈ tabs, OffS CS C H28 s10 t ∧ ∃ ks, H28 t = some (.dK ks) := fun t ht => by
        rw [etabs] at ht
        simp only [List.mem_cons, List.not_mem_nil, or_false] at ht
        rcases ht with rfl | rfl | rfl | rfl | rfl
        · exact ⟨offr14.same s1428, _, s1428 _ _ hr14⟩
        · exact ⟨offm14.same s1428, _, s1428 _ _ hm14⟩
        · exact ⟨off25.same ((s2526.trans s2627).trans s2728), _, s2728 _ _ (s2627 _ _ (s2526 _ _ h25))⟩
        · exact ⟨off26.same (s2627.trans s2728), _, s2728 _ _ (s2627 _ _ h26)⟩
        · exact ⟨off27.same s2728, _, s2728 _ _ h27⟩
      have out : ∀ {b : Addr} {u : HO}, b ≠ r ∧ b ≠ m → H14 b = some u → b ∉ tabs := fun {b u} nn e2 hb => by
        obtain ⟨n1, n2⟩ := nn
        rw [etabs] at hb
        simp only [List.mem_cons, List.not_mem_nil, or_false] at hb
        have e3 := s1424 _ _ e2
        have e4 := s2425 _ _ e3
        have e5 := s2526 _ _ e4
        rcases hb with rfl | rfl | rfl | rfl | rfl
        · exact n1 rfl
        · exact n2 rfl
        · rw [np25] at e3; cases e3
        · rw [np26] at e4; cases e4
        · rw [np27] at e5; cases e5
      have outD : ∀ {b : Addr} {u : HO}, H2' b = some u → b ∉ tabs := fun {b u} e => out (nre e) (z214 _ _ e)
      have nL3t : L3 ∉ tabs := fun h => by
        obtain ⟨_, ks, hk⟩ := offs28 _ h
        rw [hL3] at hk; cases hk
      refine ⟨L3, rfl, ⟨_, SqL.of hL3⟩, ?_⟩
      refine for_it (walk_list (xs := tabs.map V.ref)) (fun k σ H2 => ∃ z13 : Option V, σ = [some (.ref a0), some (.ref D), some (.int (0 + (i : Int))), some (.ref p), some (.ref a), some (.ref j), some (.ref fd'), some (.ref o), some (.ref r), some (.ref m), some (.ref s10), some (.ref w), some (.ref s14), z13, y14, none, none] ∧ StandAt CS C H2 s10 B3 P3 (fill B3 Qf) (fill B3 Qo) ∧ (∀ t ∈ tabs, OffS CS C H2 s10 t ∧ ∃ ks, H2 t = some (.dK ks)) ∧ (∀ t ∈ tabs.take k, H2 t = some (.dK [])) ∧ (∀ b u, H28 b = some u → b ∉ tabs → H2 b = some u))
        ⟨y13, rfl, S28, offs28, fun t ht => absurd ht (by simp), fun b u e _ => e⟩ (fun k σ H2 _ ⟨_, _, _, _, _, h⟩ => SqL.of (h L3 _ hL3 nL3t)) ?_ ?_
      · rintro k x σ H0 H29 hk ⟨z13, rfl, S, offs, done, keep⟩ ⟨e2, hx⟩
        subst e2
        rw [List.getElem?_map] at hx
        obtain ⟨t', ht', rfl⟩ := Option.map_eq_some_iff.mp hx
        have mt := List.mem_of_getElem? ht'
        obtain ⟨off, ks, hks⟩ := offs t' mt
        refine ⟨.ref t', rfl, .inr (.inr (.inl ⟨rfl, .inl ⟨ks, hks⟩⟩)), t', ks, rfl, rfl, hks, ?_⟩
        have kk : ∀ b u, H29 b = some u → b ≠ t' → upd H29 t' (.dK []) b = some u := fun b u e n => by rw [upd_ne n]; exact e
        refine ⟨some (.ref t'), rfl, S.off off (.inl ⟨_, hks⟩) kk, fun t2 h2 => ⟨(offs t2 h2).1.off (.inl ⟨_, hks⟩) kk, ?_⟩, fun t2 h2 => ?_, fun b u e nb => kk _ _ (keep b u e nb) (fun z => nb (by rw [z]; exact mt))⟩
        · by_cases c : t2 = t'
          · exact ⟨[], by rw [c, upd_same]⟩
          · obtain ⟨ks2, h3⟩ := (offs t2 h2).2
            exact ⟨ks2, kk _ _ h3 c⟩
        · by_cases c : t2 = t'
          · rw [c, upd_same]
          · rw [List.take_add_one, ht'] at h2
            rcases List.mem_append.mp h2 with h | h
            · exact kk _ _ (done _ h) c
            · exact absurd (by simpa using h) c
      rintro σ H30 ⟨z13, rfl, S30, offs30, done, keep⟩
      rw [List.length_map, List.take_length] at done
      have hr30 : H30 r = some (.dK (bk [])) := done r (by rw [etabs]; simp)
      have hm30 : H30 m = some (.dK (bk [])) := done m (by rw [etabs]; simp)
      have ha30 := keep a _ (s1428 _ _ ha14) (out nra ha14)
      have hj30 := keep j _ (s1428 _ _ hj14) (out nrj hj14)
      have hf30 := keep fd' _ (s1428 _ _ hf14) (out nrf hf14)
      have ho30 := keep o _ (s1428 _ _ ho14) (out nro ho14)
      have z230 : Same H2' H30 := fun b u e => keep b u (s1428 _ _ (z214 _ _ e)) (outD e)
      -- beside
      refine ⟨.ref a, rfl, .ref j, rfl, ?_⟩
      refine net_mkO ha30 hj30 good fun n6 B6 P6 H31 s3031 nn6 N6 pB6 pP6 so6 st6 of6 => ?_
      refine ⟨.ref r, rfl, .ref m, rfl, ?_⟩
      have g6 : Good B6 P6 := good.perm pB6.symm pP6.symm
      refine st_mk (Qp := []) (Qc := []) N6 g6 (s3031 _ _ hr30) (s3031 _ _ hm30) List.nodup_nil (fun y hy => absurd hy List.not_mem_nil) List.nodup_nil (fun y hy => absurd hy List.not_mem_nil) fun s32 H32 s3132 ns32 S32 of32 => ?_
      have s3032 := s3031.trans s3132
      refine ⟨.ref a, rfl, .ref j, rfl, fun e1 ne1 e2 ne2 => ?_⟩
      have s32a : Same H32 (upd H32 e1 (.dK [])) := same_new ne1
      have s32b : Same (upd H32 e1 (.dK [])) (upd (upd H32 e1 (.dK [])) e2 (.dK [])) := same_new ne2
      have s3033 := (s3032.trans s32a).trans s32b
      have S33 := S32.same (s32a.trans s32b)
      have he1 : (upd (upd H32 e1 (.dK [])) e2 (.dK [])) e1 = some (.dK (bk [])) := s32b _ _ upd_same
      have he2 : (upd (upd H32 e1 (.dK [])) e2 (.dK [])) e2 = some (.dK (bk [])) := upd_same
      refine ⟨.ref s32, rfl, a, j, e1, e2, s32, B, Pp, [], [], B6, P6, rfl, s3033 _ _ ha30, s3033 _ _ hj30, he1, he2, good, tbl_nil, tbl_nil, pB6, so6, pP6, st6, S33, fun H34 s3334 => ⟨true, rfl, iteF ?_⟩⟩
      have s3034 := s3033.trans s3334
      refine ⟨.ref s32, rfl, .ref a, rfl, .ref j, rfl, ?_⟩
      refine net_mkO (s3034 _ _ ha30) (s3034 _ _ hj30) good fun n7 B7 P7 H35 s3435 nn7 N7 pB7 pP7 so7 st7 of7 => ?_
      have g7 : Good B7 P7 := good.perm pB7.symm pP7.symm
      refine st_mk1 N7 g7 fun s36 H36 s3536 ns36 S36 => ?_
      have s3036 := (s3034.trans s3435).trans s3536
      have S32' := S33.same ((s3334.trans s3435).trans s3536)
      obtain ⟨dx32, m32, e32, f32, hs32, _⟩ := id S32'.at_
      obtain ⟨dx36, m36, e36, f36, hs36, _⟩ := id S36.at_
      have al3 := st_alike (Q := []) (W := []) g6 (pB6.trans pB7.symm) (pP6.trans pP7.symm)
      refine ⟨true, s32, dx32, _, hs32, fun H37 x37 => ⟨_, rfl, iteF ?_⟩, .inl ⟨rfl, ⟨.ref CS, tS hs36, by simp [PySem.W.notFirst]⟩, .inl ⟨B6, P6, _, _, s36, B7, P7, _, _, S32', rfl, S36, al3.symm⟩⟩⟩
      have s3037 : Same H30 H37 := fun b u e => x37 b u (s3036 b u e)
      have z237 := z230.trans s3037
      have hD37 := z237 _ _ hD
      -- held
      refine ⟨.ref D, rfl, .inl ⟨rfl, _, SqL.of hD37⟩, .ref a, rfl, .ref j, rfl, .ref fd', rfl, .ref o, rfl, .ref s10, rfl, line1000 (by show 5 ≤ 1000; decide), fun t2 nt2 => ?_⟩
      have nDt : D ≠ t2 := ne_of_none hD37 nt2
      have st2 : Same H37 (upd H37 t2 (.tup [.ref a, .ref j, .ref fd', .ref o, .ref s10])) := same_new nt2
      refine ⟨D, ts.map V.ref, .ref t2, rfl, rfl, st2 _ _ hD37, by rw [List.length_map]; exact small1000 (by omega), ?_⟩
      have nlE := NL.lst (ys := ts.map V.ref ++ [V.ref t2]) (st2 _ _ hD37)
      have s30t := s3037.trans st2
      refine ⟨ts ++ [t2], _, _, _, _, _, _, _, _, _, _, _, _, _, rfl, fun b u e => ?_, by rw [upd_same, List.map_append]; rfl, by rw [List.length_append]; show _ + 1 ≤ _; omega, fun t ht => ?_⟩
      · rw [upd_ne (ne_of_none e nD)]
        exact st2 _ _ (z237 _ _ (sm _ _ e))
      · rcases List.mem_append.mp ht with h | h
        · exact ((hd t h).nl (NL.of_same (z237.trans st2))).nl nlE
        · rw [List.mem_singleton.mp h]
          exact HeldAt.nl ⟨a, j, fd', o, s10, B, Pp, Qf, Qo, B3, P3, upd_same, s30t _ _ ha30, s30t _ _ hj30, s30t _ _ hf30, s30t _ _ ho30, good, tf, to_, pB3, so3, pP3, st3, S30.same s30t⟩ nlE
    · rintro σ H2 ⟨ts, y2, y3, y4, y5, y6, y7, y8, y9, y10, y11, y12, y13, y14, rfl, sm, hD, lts, hd⟩
      have lts2 : ts.length ≤ 63 := by
        refine Nat.le_trans lts ?_
        split <;> split <;> omega
      refine ⟨.ref D, rfl, D, rfl, ⟨_, SqL.of hD⟩, fun D3 nD3 => ?_⟩
      refine trues_it (by rw [List.length_map]; omega) hD nD3 (fun _ => rfl) (fun v H4 R mv s2 k => ?_) (fun H5 hD5 s5 => ?_)
      · obtain ⟨t, mt, rfl⟩ := List.mem_map.mp mv
        obtain ⟨a, j, fd', o, s1, B, Pp, Qf, Qo, B', P', h1, h2, h3, h4, h5, g, t1, t2, p1, p2, p3, p4, S⟩ := (hd t mt).nl (NL.of_same s2)
        have hx := SqT.of (K := K) h1
        exact ⟨.ref t, rfl, t, _, 0, .ref a, rfl, rfl, hx, atI_nat (j := 0) rfl, .ref t, rfl, t, _, 1, .ref j, rfl, rfl, hx, atI_nat (j := 1) rfl, .ref t, rfl, t, _, 2, .ref fd', rfl, rfl, hx, atI_nat (j := 2) rfl, .ref t, rfl, t, _, 3, .ref o, rfl, rfl, hx, atI_nat (j := 3) rfl, .ref t, rfl, t, _, 4, .ref s1, rfl, rfl, hx, atI_nat (j := 4) rfl,
          a, j, fd', o, s1, B, Pp, Qf, Qo, B', P', rfl, h2, h3, h4, h5, g, t1, t2, p1, p2, p3, p4, S, fun H6 s6 => k H6 s6⟩
      refine ⟨D3, _, rfl, SqL.of hD5, ?_⟩
      rw [all_trues]
      exact q _
end
end Nl
end
section
set_option maxHeartbeats 1000000
namespace Nl
open PySem PySem.Spec PyProof.Rows L2 Nt
theorem fun_ofD {K : PySem.W.Frag} {x qual : Str} {st : Stmt} {f : Addr} {fd : FuncData} (F : FunD K x qual (defArgs st) (defBody st) (defScope st) [] [] f fd) : Fun K x qual st f fd := by
  obtain ⟨oc, od, dV, kV, doc, pm, an, cdv, ct, osl, rfl, lk, hcd, hD, hK⟩ := F.ex
  rcases hD with ⟨_, rfl⟩ | ⟨e, _⟩
  · exact ⟨⟨oc, od, kV, doc, pm, an, cdv, ct, osl, rfl, lk, hcd⟩, F.kp⟩
  · exact absurd rfl e
theorem all_test {l : PySem.W.OpenLaw} {w : World} {K : PySem.W.Frag} {h : Heap} {mg : Str → Option Value} {C CS : Addr}
    {f_whole : Addr} {fd_whole : FuncData}
    {f_name : Addr} {fd_name : FuncData}
    {f_meas : Addr} {fd_meas : FuncData}
    {f_pondOf : Addr} {fd_pondOf : FuncData}
    {f_pairOf : Addr} {fd_pairOf : FuncData}
    {f_goes : Addr} {fd_goes : FuncData}
    {f_comes : Addr} {fd_comes : FuncData}
    {f_steps : Addr} {fd_steps : FuncData}
    {f_pOut : Addr} {fd_pOut : FuncData}
    {f_pIn : Addr} {fd_pIn : FuncData}
    {f_ckPonds : Addr} {fd_ckPonds : FuncData}
    {f_ckPipes : Addr} {fd_ckPipes : FuncData}
    {f_ckSides : Addr} {fd_ckSides : FuncData}
    {f_ckWays : Addr} {fd_ckWays : FuncData}
    {f_wrong : Addr} {fd_wrong : FuncData}
    {f_forAll : Addr} {fd_forAll : FuncData}
    {f_pot : Addr} {fd_pot : FuncData}
    {f_draw : Addr} {fd_draw : FuncData}
    {f_lname : Addr} {fd_lname : FuncData}
    {f_closed : Addr} {fd_closed : FuncData}
    {f_room : Addr} {fd_room : FuncData}
    {f_lnet : Addr} {fd_lnet : FuncData}
    {f_some : Addr} {fd_some : FuncData}
    {f_lsorted : Addr} {fd_lsorted : FuncData}
    {f_lall : Addr} {fd_lall : FuncData}
    {f_ltext : Addr} {fd_ltext : FuncData}
    {f_otherw : Addr} {fd_otherw : FuncData}
    {f_lmore : Addr} {fd_lmore : FuncData}
    {f_isTold : Addr} {fd_isTold : FuncData}
    {f_unlike : Addr} {fd_unlike : FuncData}
    {f_others : Addr} {fd_others : FuncData}
    {f_law : Addr} {fd_law : FuncData}
    {f_fig : Addr} {fd_fig : FuncData}
    {f_shown : Addr} {fd_shown : FuncData}
    {f_has : Addr} {fd_has : FuncData}
    {f_chk : Addr} {fd_chk : FuncData}
    {f_ponds : Addr} {fd_ponds : FuncData}
    {f_brim : Addr} {fd_brim : FuncData}
    {f_ins : Addr} {fd_ins : FuncData}
    {f_brims : Addr} {fd_brims : FuncData}
    {f_pipes : Addr} {fd_pipes : FuncData}
    {f_snet : Addr} {fd_snet : FuncData}
    {f_poured : Addr} {fd_poured : FuncData}
    {f_count : Addr} {fd_count : FuncData}
    {f_water : Addr} {fd_water : FuncData}
    {f_pours : Addr} {fd_pours : FuncData}
    {f_counts : Addr} {fd_counts : FuncData}
    {f_waters : Addr} {fd_waters : FuncData}
    {f_nEq : Addr} {fd_nEq : FuncData}
    {f_sEq : Addr} {fd_sEq : FuncData}
    {f_nRepr : Addr} {fd_nRepr : FuncData}
    {f_sRepr : Addr} {fd_sRepr : FuncData}
    {f_nI : Addr} {fd_nI : FuncData}
    {f_sI : Addr} {fd_sI : FuncData}
    {tk_0 : Tok}
    {tk_1 : Tok}
    {tk_2 : Tok}
    {tk_3 : Tok}
    {tk_4 : Tok}
    {tk_5 : Tok}
    (F_whole : Fun K "is_whole" "is_whole" sWhole f_whole fd_whole) (g_whole : mg "is_whole" = some (.ref f_whole))
    (F_name : Fun K "is_name" "is_name" sName f_name fd_name) (g_name : mg "is_name" = some (.ref f_name))
    (F_meas : Fun K "is_measure" "is_measure" sMeas f_meas fd_meas) (g_meas : mg "is_measure" = some (.ref f_meas))
    (F_pondOf : Fun K "is_pond_of" "is_pond_of" sPondOf f_pondOf fd_pondOf) (g_pondOf : mg "is_pond_of" = some (.ref f_pondOf))
    (F_pairOf : Fun K "is_pair_of" "is_pair_of" sPairOf f_pairOf fd_pairOf) (g_pairOf : mg "is_pair_of" = some (.ref f_pairOf))
    (F_goes : Fun K "goes_out" "goes_out" sGoes f_goes fd_goes) (g_goes : mg "goes_out" = some (.ref f_goes))
    (F_comes : Fun K "comes_in" "comes_in" sComes f_comes fd_comes) (g_comes : mg "comes_in" = some (.ref f_comes))
    (F_steps : Fun K "steps_out" "steps_out" sSteps f_steps fd_steps) (g_steps : mg "steps_out" = some (.ref f_steps))
    (F_pOut : Fun K "pipes_out" "pipes_out" sPipesOut f_pOut fd_pOut) (g_pOut : mg "pipes_out" = some (.ref f_pOut))
    (F_pIn : Fun K "pipes_in" "pipes_in" sPipesIn f_pIn fd_pIn) (g_pIn : mg "pipes_in" = some (.ref f_pIn))
    (F_ckPonds : Fun K "check_ponds" "check_ponds" sCkPonds f_ckPonds fd_ckPonds) (g_ckPonds : mg "check_ponds" = some (.ref f_ckPonds))
    (F_ckPipes : Fun K "check_pipes" "check_pipes" sCkPipes f_ckPipes fd_ckPipes) (g_ckPipes : mg "check_pipes" = some (.ref f_ckPipes))
    (F_ckSides : Fun K "check_sides" "check_sides" sCkSides f_ckSides fd_ckSides) (g_ckSides : mg "check_sides" = some (.ref f_ckSides))
    (F_ckWays : Fun K "check_ways" "check_ways" sCkWays f_ckWays fd_ckWays) (g_ckWays : mg "check_ways" = some (.ref f_ckWays))
    (F_wrong : Fun K "wrong_keys" "wrong_keys" sWrong f_wrong fd_wrong) (g_wrong : mg "wrong_keys" = some (.ref f_wrong))
    (F_forAll : Fun K "for_all_ponds" "for_all_ponds" sForAll f_forAll fd_forAll) (g_forAll : mg "for_all_ponds" = some (.ref f_forAll))
    (F_pot : Fun K "_law_pot" "_law_pot" sPot f_pot fd_pot) (g_pot : mg "_law_pot" = some (.ref f_pot))
    (F_draw : Fun K "_law_draw" "_law_draw" sDraw f_draw fd_draw) (g_draw : mg "_law_draw" = some (.ref f_draw))
    (F_lname : Fun K "_law_name" "_law_name" sLName f_lname fd_lname) (g_lname : mg "_law_name" = some (.ref f_lname))
    (F_closed : Fun K "_law_closed" "_law_closed" sClosed f_closed fd_closed) (g_closed : mg "_law_closed" = some (.ref f_closed))
    (F_room : Fun K "_law_room" "_law_room" sRoom f_room fd_room) (g_room : mg "_law_room" = some (.ref f_room))
    (F_lnet : Fun K "_law_net" "_law_net" sNet f_lnet fd_lnet) (g_lnet : mg "_law_net" = some (.ref f_lnet))
    (F_some : Fun K "_law_some" "_law_some" sSome f_some fd_some) (g_some : mg "_law_some" = some (.ref f_some))
    (F_lsorted : Fun K "_law_sorted" "_law_sorted" s_law_sorted f_lsorted fd_lsorted) (g_lsorted : mg "_law_sorted" = some (.ref f_lsorted))
    (F_lall : Fun K "_law_all" "_law_all" s_law_all f_lall fd_lall) (g_lall : mg "_law_all" = some (.ref f_lall))
    (F_ltext : Fun K "_law_text" "_law_text" s_law_text f_ltext fd_ltext) (g_ltext : mg "_law_text" = some (.ref f_ltext))
    (F_otherw : Fun K "_law_otherwise" "_law_otherwise" s_law_otherwise f_otherw fd_otherw) (g_otherw : mg "_law_otherwise" = some (.ref f_otherw))
    (F_lmore : Fun K "_law_more" "_law_more" sMore f_lmore fd_lmore) (g_lmore : mg "_law_more" = some (.ref f_lmore))
    (F_isTold : Fun K "_law_is_told" "_law_is_told" sIsTold f_isTold fd_isTold) (g_isTold : mg "_law_is_told" = some (.ref f_isTold))
    (F_unlike : Fun K "_law_unlike" "_law_unlike" s_law_unlike f_unlike fd_unlike) (g_unlike : mg "_law_unlike" = some (.ref f_unlike))
    (F_others : Fun K "_law_others" "_law_others" s_law_others f_others fd_others) (g_others : mg "_law_others" = some (.ref f_others))
    (F_law : FunD K "law" "law" (defArgs sLaw) (defBody sLaw) (defScope sLaw) [] [] f_law fd_law) (g_law : mg "law" = some (.ref f_law))
    (F_fig : Fun K "figures" "figures" s_figures f_fig fd_fig) (g_fig : mg "figures" = some (.ref f_fig))
    (F_shown : Fun K "shown" "shown" s_shown f_shown fd_shown) (g_shown : mg "shown" = some (.ref f_shown))
    (F_has : Fun K "has_pond" "Net.has_pond" mNet_has_pond f_has fd_has) (m_has : Meth K C "has_pond" f_has)
    (F_chk : Fun K "check_pond" "Net.check_pond" mNet_check_pond f_chk fd_chk) (m_chk : Meth K C "check_pond" f_chk)
    (F_ponds : Fun K "ponds" "Net.ponds" mNet_ponds f_ponds fd_ponds) (m_ponds : Meth K C "ponds" f_ponds)
    (F_brim : Fun K "brim" "Net.brim" mNet_brim f_brim fd_brim) (m_brim : Meth K C "brim" f_brim)
    (F_ins : Fun K "ins" "Net.ins" mNet_ins f_ins fd_ins) (m_ins : Meth K C "ins" f_ins)
    (F_brims : Fun K "brims" "Net.brims" mNet_brims f_brims fd_brims) (m_brims : Meth K C "brims" f_brims)
    (F_pipes : Fun K "pipes" "Net.pipes" mNet_pipes f_pipes fd_pipes) (m_pipes : Meth K C "pipes" f_pipes)
    (F_snet : Fun K "net" "Stand.net" mStand_net f_snet fd_snet) (m_snet : Meth K CS "net" f_snet)
    (F_poured : Fun K "poured" "Stand.poured" mStand_poured f_poured fd_poured) (m_poured : Meth K CS "poured" f_poured)
    (F_count : Fun K "count" "Stand.count" mStand_count f_count fd_count) (m_count : Meth K CS "count" f_count)
    (F_water : Fun K "water" "Stand.water" mStand_water f_water fd_water) (m_water : Meth K CS "water" f_water)
    (F_pours : Fun K "pours" "Stand.pours" mStand_pours f_pours fd_pours) (m_pours : Meth K CS "pours" f_pours)
    (F_counts : Fun K "counts" "Stand.counts" mStand_counts f_counts fd_counts) (m_counts : Meth K CS "counts" f_counts)
    (F_waters : Fun K "waters" "Stand.waters" mStand_waters f_waters fd_waters) (m_waters : Meth K CS "waters" f_waters)
    (F_nEq : Fun K "__eq__" "Net.__eq__" mNet_eq f_nEq fd_nEq) (m_nEq : Meth K C "__eq__" f_nEq)
    (F_sEq : Fun K "__eq__" "Stand.__eq__" mStand_eq f_sEq fd_sEq) (m_sEq : Meth K CS "__eq__" f_sEq)
    (F_nRepr : Fun K "__repr__" "Net.__repr__" mNet_repr f_nRepr fd_nRepr) (m_nRepr : Meth K C "__repr__" f_nRepr)
    (F_sRepr : Fun K "__repr__" "Stand.__repr__" mStand_repr f_sRepr fd_sRepr) (m_sRepr : Meth K CS "__repr__" f_sRepr)
    (F_nI : FunD K "__init__" "Net.__init__" (defArgs mNet_init) (defBody mNet_init) (defScope mNet_init) [.non] [] f_nI fd_nI) (MN : Mk K C f_nI)
    (F_sI : FunD K "__init__" "Stand.__init__" (defArgs mStand_init) (defBody mStand_init) (defScope mStand_init) [.non, .non] [] f_sI fd_sI) (MS : Mk K CS f_sI)
    (T : TxN K mg C) (TS : TxS K mg CS)
    (i_ha : PySem.W.findIn K (.ref C) "__class__" = some (some (.builtin "object.__class__")))
    (i_haS : PySem.W.findIn K (.ref CS) "__class__" = some (some (.builtin "object.__class__")))
    (i_hn : PySem.W.specialIn K (.builtin "object.__class__") "__get__" = some (some (.builtin "getset_descriptor.__get__")))
    (i_htk : PySem.W.takesIn K (.builtin "object.__class__") = some true)
    (i_hm : PySem.W.mroIn K C (.type "object") = some true)
    (i_hmS : PySem.W.mroIn K CS (.type "object") = some true)
    (u_0 : PySem.W.subIn K (.ref C) (.type "NoneType") = some false)
    (u_1 : PySem.W.subIn K (.ref C) (.type "int") = some false)
    (u_2 : PySem.W.subIn K (.ref C) (.type "str") = some false)
    (u_3 : PySem.W.subIn K (.ref C) (.type "tuple") = some false)
    (u_4 : PySem.W.subIn K (.ref C) (.type "dict") = some false)
    (us_0 : PySem.W.subIn K (.ref CS) (.type "NoneType") = some false)
    (us_1 : PySem.W.subIn K (.ref CS) (.type "int") = some false)
    (us_2 : PySem.W.subIn K (.ref CS) (.type "str") = some false)
    (us_3 : PySem.W.subIn K (.ref CS) (.type "tuple") = some false)
    (us_4 : PySem.W.subIn K (.ref CS) (.type "dict") = some false)
    (q_0 : PySem.W.notFirst K CS (.type "NoneType") = true)
    (q_1 : PySem.W.notFirst K CS (.type "int") = true)
    (q_2 : PySem.W.notFirst K CS (.type "str") = true)
    (q_3 : PySem.W.notFirst K CS (.type "tuple") = true)
    (q_4 : PySem.W.notFirst K CS (.type "dict") = true)
    (r_0 : PySem.W.kitOne K (.type "NoneType") (.ref CS) = some false)
    (r_1 : PySem.W.kitOne K (.type "int") (.ref CS) = some false)
    (r_2 : PySem.W.kitOne K (.type "str") (.ref CS) = some false)
    (r_3 : PySem.W.kitOne K (.type "tuple") (.ref CS) = some false)
    (r_4 : PySem.W.kitOne K (.type "dict") (.ref CS) = some false)
    (q_n : PySem.W.notFirst K CS (.ref C) = true)
    (r_n : PySem.W.kitOne K (.ref C) (.ref CS) = some false)
    (q_s : PySem.W.notFirst K C (.ref CS) = true)
    (r_s : PySem.W.kitOne K (.ref CS) (.ref C) = some false)
    (x_isinstance : mg "isinstance" = none)
    (x_int : mg "int" = none)
    (x_bool : mg "bool" = none)
    (x_str : mg "str" = none)
    (x_len : mg "len" = none)
    (x_all : mg "all" = none)
    (x_tuple : mg "tuple" = none)
    (x_sum : mg "sum" = none)
    (x_sorted : mg "sorted" = none)
    (x_dict : mg "dict" = none)
    (x_list : mg "list" = none)
    (x_divmod : mg "divmod" = none)
    (x_max : mg "max" = none)
    (x_abs : mg "abs" = none)
    (x_range : mg "range" = none)
    (x_min : mg "min" = none)
    (x_repr : mg "repr" = none)
    (w_0 : mg "MOST_LETTERS" = some (.int 8 tk_0))
    (w_1 : mg "LETTERS" = some (.str abc tk_1))
    (w_2 : mg "MOST_BRIM" = some (.int 60 tk_2))
    (w_3 : mg "MOST_PONDS" = some (.int 12 tk_3))
    (w_4 : mg "PART" = some (.int 10000000000000000000000000000000000000000000000000000000000000000 tk_4))
    (w_5 : mg "PART_FIGURES" = some (.int 64 tk_5)) :
    ∃ fd : FuncData, (∀ (s : Shared) (v : Value), BindsTo s fd ⟨[v], []⟩ [("_law_script", v)]) ∧ ∀ base : Heap, K.In base → base.Ns mainGlobals mg → Rl.FnG l.prog w K mg base CX0 8 f_law fd ["_law_script"] (spLaw K) := by
  have FD_law := F_law
  have F_law := fun_ofD F_law
  have b_whole := F_whole.binds (ps := ["thing", "least"]) fun _ _ _ _ _ _ us hl => match us, hl with | [_, _], _ => rfl
  have b_name := F_name.binds (ps := ["thing"]) fun _ _ _ _ _ _ us hl => match us, hl with | [_], _ => rfl
  have b_meas := F_meas.binds (ps := ["thing"]) fun _ _ _ _ _ _ us hl => match us, hl with | [_], _ => rfl
  have b_pondOf := F_pondOf.binds (ps := ["brims", "thing"]) fun _ _ _ _ _ _ us hl => match us, hl with | [_, _], _ => rfl
  have b_pairOf := F_pairOf.binds (ps := ["brims", "thing"]) fun _ _ _ _ _ _ us hl => match us, hl with | [_, _], _ => rfl
  have b_goes := F_goes.binds (ps := ["pipes", "name"]) fun _ _ _ _ _ _ us hl => match us, hl with | [_, _], _ => rfl
  have b_comes := F_comes.binds (ps := ["pipes", "name"]) fun _ _ _ _ _ _ us hl => match us, hl with | [_, _], _ => rfl
  have b_steps := F_steps.binds (ps := ["brims", "pipes"]) fun _ _ _ _ _ _ us hl => match us, hl with | [_, _], _ => rfl
  have b_pOut := F_pOut.binds (ps := ["pipes", "name"]) fun _ _ _ _ _ _ us hl => match us, hl with | [_, _], _ => rfl
  have b_pIn := F_pIn.binds (ps := ["pipes", "name"]) fun _ _ _ _ _ _ us hl => match us, hl with | [_, _], _ => rfl
  have b_ckPonds := F_ckPonds.binds (ps := ["brims"]) fun _ _ _ _ _ _ us hl => match us, hl with | [_], _ => rfl
  have b_ckPipes := F_ckPipes.binds (ps := ["brims", "pipes"]) fun _ _ _ _ _ _ us hl => match us, hl with | [_, _], _ => rfl
  have b_ckSides := F_ckSides.binds (ps := ["brims", "pipes"]) fun _ _ _ _ _ _ us hl => match us, hl with | [_, _], _ => rfl
  have b_ckWays := F_ckWays.binds (ps := ["brims", "pipes"]) fun _ _ _ _ _ _ us hl => match us, hl with | [_, _], _ => rfl
  have b_wrong := F_wrong.binds (ps := ["net", "table"]) fun _ _ _ _ _ _ us hl => match us, hl with | [_, _], _ => rfl
  have b_forAll := F_forAll.binds (ps := ["net", "table"]) fun _ _ _ _ _ _ us hl => match us, hl with | [_, _], _ => rfl
  have b_pot := F_pot.binds (ps := ["_law_script", "_law_k"]) fun _ _ _ _ _ _ us hl => match us, hl with | [_, _], _ => rfl
  have b_draw := F_draw.binds (ps := ["_law_pot_here", "_law_many"]) fun _ _ _ _ _ _ us hl => match us, hl with | [_, _], _ => rfl
  have b_lname := F_lname.binds (ps := ["_law_pot_here", "_law_taken"]) fun _ _ _ _ _ _ us hl => match us, hl with | [_, _], _ => rfl
  have b_closed := F_closed.binds (ps := ["_law_wide", "_law_joins"]) fun _ _ _ _ _ _ us hl => match us, hl with | [_, _], _ => rfl
  have b_room := F_room.binds (ps := ["_law_wide", "_law_joins", "_law_one", "_law_other"]) fun _ _ _ _ _ _ us hl => match us, hl with | [_, _, _, _], _ => rfl
  have b_lnet := F_lnet.binds (ps := ["_law_pot_here", "_law_most", "_law_high"]) fun _ _ _ _ _ _ us hl => match us, hl with | [_, _, _], _ => rfl
  have b_some := F_some.binds (ps := ["_law_pot_here", "_law_wide", "_law_far"]) fun _ _ _ _ _ _ us hl => match us, hl with | [_, _, _], _ => rfl
  have b_lsorted := F_lsorted.binds (ps := ["_law_table"]) fun _ _ _ _ _ _ us hl => match us, hl with | [_], _ => rfl
  have b_lall := F_lall.binds (ps := ["_law_wide", "_law_given"]) fun _ _ _ _ _ _ us hl => match us, hl with | [_, _], _ => rfl
  have b_ltext := F_ltext.binds (ps := ["_law_wide", "_law_joins", "_law_fed", "_law_often"]) fun _ _ _ _ _ _ us hl => match us, hl with | [_, _, _, _], _ => rfl
  have b_otherw := F_otherw.binds (ps := ["_law_pot_here", "_law_wide", "_law_given"]) fun _ _ _ _ _ _ us hl => match us, hl with | [_, _, _], _ => rfl
  have b_lmore := F_lmore.binds (ps := ["_law_given", "_law_one"]) fun _ _ _ _ _ _ us hl => match us, hl with | [_, _], _ => rfl
  have b_isTold := F_isTold.binds (ps := ["_law_wide", "_law_joins", "_law_fed", "_law_often", "_law_stand"]) fun _ _ _ _ _ _ us hl => match us, hl with | [_, _, _, _, _], _ => rfl
  have b_unlike := F_unlike.binds (ps := ["_law_one", "_law_other"]) fun _ _ _ _ _ _ us hl => match us, hl with | [_, _], _ => rfl
  have b_others := F_others.binds (ps := ["_law_wide", "_law_joins", "_law_fed", "_law_often"]) fun _ _ _ _ _ _ us hl => match us, hl with | [_, _, _, _], _ => rfl
  have b_law := F_law.binds (ps := ["_law_script"]) fun _ _ _ _ _ _ us hl => match us, hl with | [_], _ => rfl
  have b_fig := F_fig.binds (ps := ["number"]) fun _ _ _ _ _ _ us hl => match us, hl with | [_], _ => rfl
  have b_shown := F_shown.binds (ps := ["table"]) fun _ _ _ _ _ _ us hl => match us, hl with | [_], _ => rfl
  have b_has := F_has.binds (ps := ["self", "thing"]) fun _ _ _ _ _ _ us hl => match us, hl with | [_, _], _ => rfl
  have b_chk := F_chk.binds (ps := ["self", "thing"]) fun _ _ _ _ _ _ us hl => match us, hl with | [_, _], _ => rfl
  have b_ponds := F_ponds.binds (ps := ["self"]) fun _ _ _ _ _ _ us hl => match us, hl with | [_], _ => rfl
  have b_brim := F_brim.binds (ps := ["self", "name"]) fun _ _ _ _ _ _ us hl => match us, hl with | [_, _], _ => rfl
  have b_ins := F_ins.binds (ps := ["self", "name"]) fun _ _ _ _ _ _ us hl => match us, hl with | [_, _], _ => rfl
  have b_brims := F_brims.binds (ps := ["self"]) fun _ _ _ _ _ _ us hl => match us, hl with | [_], _ => rfl
  have b_pipes := F_pipes.binds (ps := ["self"]) fun _ _ _ _ _ _ us hl => match us, hl with | [_], _ => rfl
  have b_snet := F_snet.binds (ps := ["self"]) fun _ _ _ _ _ _ us hl => match us, hl with | [_], _ => rfl
  have b_poured := F_poured.binds (ps := ["self", "name"]) fun _ _ _ _ _ _ us hl => match us, hl with | [_, _], _ => rfl
  have b_count := F_count.binds (ps := ["self", "name"]) fun _ _ _ _ _ _ us hl => match us, hl with | [_, _], _ => rfl
  have b_water := F_water.binds (ps := ["self", "name"]) fun _ _ _ _ _ _ us hl => match us, hl with | [_, _], _ => rfl
  have b_pours := F_pours.binds (ps := ["self"]) fun _ _ _ _ _ _ us hl => match us, hl with | [_], _ => rfl
  have b_counts := F_counts.binds (ps := ["self"]) fun _ _ _ _ _ _ us hl => match us, hl with | [_], _ => rfl
  have b_waters := F_waters.binds (ps := ["self"]) fun _ _ _ _ _ _ us hl => match us, hl with | [_], _ => rfl
  have b_nEq := F_nEq.binds (ps := ["self", "other"]) fun _ _ _ _ _ _ us hl => match us, hl with | [_, _], _ => rfl
  have b_sEq := F_sEq.binds (ps := ["self", "other"]) fun _ _ _ _ _ _ us hl => match us, hl with | [_, _], _ => rfl
  have b_nRepr := F_nRepr.binds (ps := ["self"]) fun _ _ _ _ _ _ us hl => match us, hl with | [_], _ => rfl
  have b_sRepr := F_sRepr.binds (ps := ["self"]) fun _ _ _ _ _ _ us hl => match us, hl with | [_], _ => rfl
  obtain ⟨ds_n, v_n, b_n⟩ := F_nI.binds1 (ps := ["self", "brims", "pipes"]) 3 1 (by simp) rfl (fun T kV doc pm an cdv ct us its hu hi => match us, its, hu, hi with | [_, _, _], [_], _, _ => ⟨_, rfl, rfl⟩)
  obtain ⟨ds_n1, v_n1, b_n1⟩ := F_nI.binds1 (ps := ["self", "brims", "pipes"]) 2 0 (by simp) rfl (fun T kV doc pm an cdv ct us its hu hi => match us, its, hu, hi with | [_, _], [_], _, _ => ⟨_, rfl, rfl⟩)
  have v_n1 : Vals [.non] ds_n1 := v_n1
  obtain ⟨ds_s3, v_s3, b_s3⟩ := F_sI.binds1 (ps := ["self", "net", "poured", "counts"]) 4 2 (by simp) rfl (fun T kV doc pm an cdv ct us its hu hi => match us, its, hu, hi with | [_, _, _, _], [_, _], _, _ => ⟨_, rfl, rfl⟩)
  obtain ⟨ds_s2, v_s2, b_s2⟩ := F_sI.binds1 (ps := ["self", "net", "poured", "counts"]) 3 1 (by simp) rfl (fun T kV doc pm an cdv ct us its hu hi => match us, its, hu, hi with | [_, _, _], [_, _], _, _ => ⟨_, rfl, rfl⟩)
  obtain ⟨ds_s1, v_s1, b_s1⟩ := F_sI.binds1 (ps := ["self", "net", "poured", "counts"]) 2 0 (by simp) rfl (fun T kV doc pm an cdv ct us its hu hi => match us, its, hu, hi with | [_, _], [_, _], _, _ => ⟨_, rfl, rfl⟩)
  have IC : C8.InsC K C := ⟨T.cl, i_ha, i_hn, i_htk, i_hm, if_pos (beq_self_eq_true _)⟩
  have ICS : C8.InsC K CS := ⟨TS.cl, i_haS, i_hn, i_htk, i_hmS, if_pos (beq_self_eq_true _)⟩
  have nk_C : Rl.NoKd K C := ⟨u_0, u_1, u_2, u_3, u_4⟩
  have nk_CS : Rl.NoKd K CS := ⟨us_0, us_1, us_2, us_3, us_4⟩
  have kf : KindF K CS C := ⟨fun h => match h with | .non => ⟨q_0, r_0⟩ | .int _ => ⟨q_1, r_1⟩ | .str _ => ⟨q_2, r_2⟩ | .tup _ => ⟨q_3, r_3⟩ | .dK _ => ⟨q_4, r_4⟩, ⟨q_n, r_n⟩, ⟨q_s, r_s⟩⟩
  have kb_sI := Rl.kbQ (ps := ["self", "net", "poured", "counts"]) F_sI 1 ["counts", "net", "poured"] [1, 2, 0] (by simp) (fun T kV doc pm an cdv ct us ws its h1 h2 h3 => match us, ws, its, h1, h2, h3 with | [_], [_, _, _], [_, _], _, _, _ => ⟨_, rfl, rfl⟩)
  have w_P : mg "PART" = some (.int PT tk_4) := by rw [PT_lit]; exact w_4
  have v_n : Vals [] ds_n := v_n
  have v_s3 : Vals [] ds_s3 := v_s3
  have bA := FD_law.bindsA (ps := ["_law_script"]) fun _ _ _ _ _ _ us hl => match us, hl with | [_], _ => rfl
  refine ⟨fd_law, fun s v => bA s [v] rfl, fun base _ _ => ?_⟩
  have G_whole : FnOk l.prog w K mg base CX0 1 f_whole _ ["thing", "least"] spWhole := ok_whole F_whole x_isinstance x_int x_bool
  have G_name : FnOk l.prog w K mg base CX0 1 f_name _ ["thing"] spName := ok_name F_name x_isinstance x_str x_len x_all w_0 w_1
  have G_meas : FnOk l.prog w K mg base CX0 2 f_meas _ ["thing"] spMeas := ok_meas F_meas F_whole G_whole b_whole g_whole w_2
  have G_pondOf : FnOk l.prog w K mg base CX0 2 f_pondOf _ ["brims", "thing"] spPondOf := ok_pondOf F_pondOf F_name G_name b_name g_name
  have G_pairOf : FnOk l.prog w K mg base CX0 3 f_pairOf _ ["brims", "thing"] spPairOf := ok_pairOf F_pairOf F_pondOf G_pondOf b_pondOf g_pondOf x_isinstance x_tuple x_len
  have G_goes : FnOk l.prog w K mg base CX0 1 f_goes _ ["pipes", "name"] spGoes := ok_goes F_goes x_sum
  have G_comes : FnOk l.prog w K mg base CX0 1 f_comes _ ["pipes", "name"] spComes := ok_comes F_comes x_sum
  have G_steps : FnOk l.prog w K mg base CX0 2 f_steps _ ["brims", "pipes"] spSteps := ok_steps F_steps F_goes G_goes b_goes g_goes x_sorted
  have G_ckPonds : FnOk l.prog w K mg base CX0 3 f_ckPonds _ ["brims"] spCkPonds := ok_ckPonds F_ckPonds F_name G_name b_name g_name F_meas G_meas b_meas g_meas x_len w_3
  have G_ckPipes : FnOk l.prog w K mg base CX0 4 f_ckPipes _ ["brims", "pipes"] (spCk2 fun _ _ => True) := ok_ckPipes F_ckPipes F_pairOf G_pairOf b_pairOf g_pairOf F_meas G_meas b_meas g_meas
  have G_ckSides : FnOk l.prog w K mg base CX0 2 f_ckSides _ ["brims", "pipes"] (spCk2 Fit) := ok_ckSides F_ckSides F_goes G_goes b_goes g_goes F_comes G_comes b_comes g_comes x_sorted
  have G_ckWays : FnOk l.prog w K mg base CX0 3 f_ckWays _ ["brims", "pipes"] (spCk2 fun B Pp => ∀ x ∈ nms B, Opn B Pp x) := ok_ckWays F_ckWays F_steps G_steps b_steps g_steps x_sorted
  have G_pOut : FnOk l.prog w K mg base CX0 1 f_pOut _ ["pipes", "name"] (spSide outsOf) := ok_PipesOut F_pOut
  have G_pIn : FnOk l.prog w K mg base CX0 1 f_pIn _ ["pipes", "name"] (spSide insOf) := ok_PipesIn F_pIn
  have G_nI : FnOk l.prog w K mg base CX0 5 f_nI _ ["self", "brims", "pipes"] (spNInit C) := ok_nInit F_nI T F_ckPonds G_ckPonds b_ckPonds g_ckPonds F_ckPipes G_ckPipes b_ckPipes g_ckPipes F_ckSides G_ckSides b_ckSides g_ckSides F_ckWays G_ckWays b_ckWays g_ckWays F_pOut G_pOut b_pOut g_pOut F_pIn G_pIn b_pIn g_pIn x_isinstance x_dict x_sorted
  have G_has : FnOk l.prog w K mg base CX0 3 f_has _ ["self", "thing"] (spHas C) := ok_has F_has T F_pondOf G_pondOf b_pondOf g_pondOf
  have G_chk : FnOk l.prog w K mg base CX0 4 f_chk _ ["self", "thing"] (spChk C) := ok_chk F_chk T m_has G_has b_has
  have G_ponds : FnOk l.prog w K mg base CX0 1 f_ponds _ ["self"] (spPonds C) := ok_ponds F_ponds T x_list
  have G_brim : FnOk l.prog w K mg base CX0 5 f_brim _ ["self", "name"] (spBrim C) := ok_brim F_brim T m_chk G_chk b_chk
  have G_ins : FnOk l.prog w K mg base CX0 5 f_ins _ ["self", "name"] (spIns C) := ok_ins F_ins T m_chk G_chk b_chk x_list
  have G_brims : FnOk l.prog w K mg base CX0 1 f_brims _ ["self"] (spBrims C) := ok_brims F_brims T
  have G_pipes : FnOk l.prog w K mg base CX0 1 f_pipes _ ["self"] (spPipes C) := ok_pipes F_pipes T
  have G_wrong : FnOk l.prog w K mg base CX0 4 f_wrong _ ["net", "table"] (spWrong C) := ok_wrong F_wrong T m_has G_has b_has F_whole G_whole b_whole g_whole x_isinstance x_dict
  have G_forAll : FnOk l.prog w K mg base CX0 2 f_forAll _ ["net", "table"] (spForAll C) := ok_forAll F_forAll T m_ponds G_ponds b_ponds
  have G_sI : FnOk l.prog w K mg base CX0 5 f_sI _ ["self", "net", "poured", "counts"] (spSInit CS C) := ok_sInit F_sI TS F_wrong G_wrong b_wrong g_wrong F_forAll G_forAll b_forAll g_forAll
  have G_snet : FnOk l.prog w K mg base CX0 1 f_snet _ ["self"] (spSNet CS C) := ok_sNet F_snet TS
  have G_poured : FnOk l.prog w K mg base CX0 5 f_poured _ ["self", "name"] (spPoured CS C) := ok_poured F_poured TS T m_chk G_chk b_chk
  have G_count : FnOk l.prog w K mg base CX0 5 f_count _ ["self", "name"] (spCount CS C) := ok_count F_count TS T m_chk G_chk b_chk
  have G_water : FnOk l.prog w K mg base CX0 6 f_water _ ["self", "name"] (spWater CS C) := ok_water F_water TS T m_ins G_ins b_ins m_brim G_brim b_brim x_sum
  have G_pours : FnOk l.prog w K mg base CX0 1 f_pours _ ["self"] (spPours CS C) := ok_pours F_pours TS
  have G_counts : FnOk l.prog w K mg base CX0 1 f_counts _ ["self"] (spCounts CS C) := ok_counts F_counts TS
  have G_pot : FnOk l.prog w K mg base CX0 1 f_pot _ ["_law_script", "_law_k"] (spPot K) := ok_pot F_pot x_len x_max x_abs
  have G_draw : FnOk l.prog w K mg base CX0 1 f_draw _ ["_law_pot_here", "_law_many"] spDraw := ok_draw F_draw x_divmod
  have G_nEq : FnOk l.prog w K mg base CX0 1 f_nEq _ ["self", "other"] (Rl.spEqY (NetY K C)) := ok_nEqY F_nEq T IC x_isinstance
  have G_sEq : FnOk l.prog w K mg base CX0 2 f_sEq _ ["self", "other"] (Rl.spEqY (StY K CS C)) := ok_sEqY F_sEq T TS IC ICS nk_C G_nEq b_nEq m_nEq x_isinstance
  have G_room : FnOk l.prog w K mg base CX0 1 f_room _ ["_law_wide", "_law_joins", "_law_one", "_law_other"] spRoom := ok_room F_room x_sum x_min
  have G_closed : FnOk l.prog w K mg base CX0 1 f_closed _ ["_law_wide", "_law_joins"] spClosed := ok_closed F_closed x_sum x_sorted x_range x_len x_all
  have G_lname : FnOk l.prog w K mg base CX0 2 f_lname _ ["_law_pot_here", "_law_taken"] spLName := ok_lname F_lname F_draw G_draw b_draw g_draw x_range x_len
  have G_lnet : FnOk l.prog w K mg base CX0 3 f_lnet _ ["_law_pot_here", "_law_most", "_law_high"] spNet := ok_net F_lnet F_draw G_draw b_draw g_draw F_lname G_lname b_lname g_lname F_room G_room b_room g_room F_closed G_closed b_closed g_closed x_range x_len x_min x_sorted
  have G_some : FnOk l.prog w K mg base CX0 2 f_some _ ["_law_pot_here", "_law_wide", "_law_far"] spSome := ok_some F_some F_draw G_draw b_draw g_draw x_sorted
  have G_waters : FnOk l.prog w K mg base CX0 7 f_waters _ ["self"] (spWaters CS C) := ok_waters F_waters TS T m_ponds G_ponds b_ponds m_water G_water b_water
  have G_fig : FnOk l.prog w K mg base CX0 1 f_fig _ ["number"] spFig := ok_fig F_fig w_P w_5 x_divmod x_str
  have G_shown : FnOk l.prog w K mg base CX0 2 f_shown _ ["table"] spShown := ok_shown F_shown F_fig G_fig b_fig g_fig
  have G_nRepr : Rl.FnG l.prog w K mg base CX0 1 f_nRepr _ ["self"] (spNRepr C) := ok_nRepr F_nRepr T
  have G_sRepr : Rl.FnG l.prog w K mg base CX0 3 f_sRepr _ ["self"] (spSRepr CS C) := ok_sRepr F_sRepr TS G_nRepr b_nRepr m_nRepr.at_ m_nRepr.fn F_shown G_shown b_shown g_shown
  have GK_lsorted : FnOk l.prog w K mg base CX0 1 f_lsorted _ ["_law_table"] spLSortedK := ok_lsortedK F_lsorted T TS x_dict x_sorted
  have GT_lsorted : FnOk l.prog w K mg base CX0 1 f_lsorted _ ["_law_table"] spLSortedT := ok_lsortedT F_lsorted T TS x_dict x_sorted
  have G_lsorted : FnOk l.prog w K mg base CX0 1 f_lsorted _ ["_law_table"] spLSorted := fnokOr GK_lsorted GT_lsorted
  have G_lall : FnOk l.prog w K mg base CX0 1 f_lall _ ["_law_wide", "_law_given"] spLAll := ok_lall F_lall T TS x_dict x_sorted
  have G_ltext : Rl.FnG l.prog w K mg base CX0 2 f_ltext _ ["_law_wide", "_law_joins", "_law_fed", "_law_often"] spLText := ok_ltext F_ltext T TS x_repr F_lsorted G_lsorted b_lsorted g_lsorted F_lall G_lall b_lall g_lall x_repr
  have G_isTold : Rl.FnG l.prog w K mg base CX0 7 f_isTold _ ["_law_wide", "_law_joins", "_law_fed", "_law_often", "_law_stand"] (spIsTold CS C) := ok_isTold F_isTold T TS x_repr G_sRepr b_sRepr m_sRepr.at_ m_sRepr.fn m_nEq G_nEq b_nEq IC nk_C F_ltext G_ltext b_ltext g_ltext m_snet G_snet b_snet MN G_nI b_n v_n m_pours G_pours b_pours F_lall G_lall b_lall g_lall m_counts G_counts b_counts x_repr
  have G_unlike : FnOk l.prog w K mg base CX0 3 f_unlike _ ["_law_one", "_law_other"] (spUnlike K CS C) := ok_unlike F_unlike T TS m_nEq G_nEq b_nEq m_sEq G_sEq b_sEq IC ICS nk_C nk_CS kf
  have G_lmore : FnOk l.prog w K mg base CX0 1 f_lmore _ ["_law_given", "_law_one"] spLMore := ok_lmore F_lmore T TS x_dict
  have G_otherw : FnOk l.prog w K mg base CX0 2 f_otherw _ ["_law_pot_here", "_law_wide", "_law_given"] spOtherw := ok_otherw F_otherw T TS F_draw G_draw b_draw g_draw x_dict x_len x_sorted
  have G_others : FnOk l.prog w K mg base CX0 7 f_others _ ["_law_wide", "_law_joins", "_law_fed", "_law_often"] (spOthers CS C) := ok_others F_others T TS MN G_nI b_n v_n F_lmore G_lmore b_lmore g_lmore MS G_sI b_s3 v_s3 x_dict x_len x_sorted
  exact ok_law F_law T TS G_sRepr b_sRepr m_sRepr.at_ m_sRepr.fn m_sEq G_sEq b_sEq IC ICS nk_CS kb_sI F_pot G_pot b_pot g_pot F_lnet G_lnet b_lnet g_lnet F_some G_some b_some g_some F_otherw G_otherw b_otherw g_otherw MN G_nI b_n v_n MS G_sI b_s3 v_s3 F_isTold G_isTold b_isTold g_isTold F_others G_others b_others g_others F_unlike G_unlike b_unlike g_unlike m_snet G_snet b_snet m_pours G_pours b_pours m_counts G_counts b_counts m_waters G_waters b_waters b_s1 v_s1 x_all x_len x_max x_min x_range x_repr
end Nl
end
set_option maxHeartbeats 0
namespace Nl
open PySem PySem.Spec PyProof.Rows L2
theorem facts {l : PySem.W.OpenLaw} {w : World} {K : PySem.W.Frag} {h : Heap} {mg : Str → Option Value} {fa : Addr} (X : K.In h) (G : h.Ns mainGlobals mg) (hfa : mg "law" = some (.ref fa)) (c : He.SaysD faAll fnAll K) (e : exAll K = true) :
    ∃ fd : FuncData, (∀ (s : Shared) (v : Value), BindsTo s fd ⟨[v], []⟩ [("_law_script", v)]) ∧ ∀ base : Heap, K.In base → base.Ns mainGlobals mg → Rl.FnG l.prog w K mg base CX0 8 fa fd ["_law_script"] (spLaw K) := by
  have e1 := hfa.symm.trans (He.glo_ok X G (c.fact 31 (f := .glo "law") rfl))
  cases e1
  obtain ⟨e_0, e⟩ := He.ba e
  have e_i_ha : PySem.W.findIn K (.ref (He.ga K "Net")) "__class__" = some (some (.builtin "object.__class__")) := of_decide_eq_true e_0
  obtain ⟨e_1, e⟩ := He.ba e
  have e_i_haS : PySem.W.findIn K (.ref (He.ga K "Stand")) "__class__" = some (some (.builtin "object.__class__")) := of_decide_eq_true e_1
  obtain ⟨e_2, e⟩ := He.ba e
  have e_i_hn : PySem.W.specialIn K (.builtin "object.__class__") "__get__" = some (some (.builtin "getset_descriptor.__get__")) := of_decide_eq_true e_2
  obtain ⟨e_3, e⟩ := He.ba e
  have e_i_htk : PySem.W.takesIn K (.builtin "object.__class__") = some true := of_decide_eq_true e_3
  obtain ⟨e_4, e⟩ := He.ba e
  have e_i_hm : PySem.W.mroIn K (He.ga K "Net") (.type "object") = some true := of_decide_eq_true e_4
  obtain ⟨e_5, e⟩ := He.ba e
  have e_i_hmS : PySem.W.mroIn K (He.ga K "Stand") (.type "object") = some true := of_decide_eq_true e_5
  obtain ⟨e_6, e⟩ := He.ba e
  have e_u_0 : PySem.W.subIn K (.ref (He.ga K "Net")) (.type "NoneType") = some false := of_decide_eq_true e_6
  obtain ⟨e_7, e⟩ := He.ba e
  have e_u_1 : PySem.W.subIn K (.ref (He.ga K "Net")) (.type "int") = some false := of_decide_eq_true e_7
  obtain ⟨e_8, e⟩ := He.ba e
  have e_u_2 : PySem.W.subIn K (.ref (He.ga K "Net")) (.type "str") = some false := of_decide_eq_true e_8
  obtain ⟨e_9, e⟩ := He.ba e
  have e_u_3 : PySem.W.subIn K (.ref (He.ga K "Net")) (.type "tuple") = some false := of_decide_eq_true e_9
  obtain ⟨e_10, e⟩ := He.ba e
  have e_u_4 : PySem.W.subIn K (.ref (He.ga K "Net")) (.type "dict") = some false := of_decide_eq_true e_10
  obtain ⟨e_11, e⟩ := He.ba e
  have e_us_0 : PySem.W.subIn K (.ref (He.ga K "Stand")) (.type "NoneType") = some false := of_decide_eq_true e_11
  obtain ⟨e_12, e⟩ := He.ba e
  have e_us_1 : PySem.W.subIn K (.ref (He.ga K "Stand")) (.type "int") = some false := of_decide_eq_true e_12
  obtain ⟨e_13, e⟩ := He.ba e
  have e_us_2 : PySem.W.subIn K (.ref (He.ga K "Stand")) (.type "str") = some false := of_decide_eq_true e_13
  obtain ⟨e_14, e⟩ := He.ba e
  have e_us_3 : PySem.W.subIn K (.ref (He.ga K "Stand")) (.type "tuple") = some false := of_decide_eq_true e_14
  obtain ⟨e_15, e⟩ := He.ba e
  have e_us_4 : PySem.W.subIn K (.ref (He.ga K "Stand")) (.type "dict") = some false := of_decide_eq_true e_15
  obtain ⟨e_16, e⟩ := He.ba e
  have e_q_0 : PySem.W.notFirst K (He.ga K "Stand") (.type "NoneType") = true := e_16
  obtain ⟨e_17, e⟩ := He.ba e
  have e_q_1 : PySem.W.notFirst K (He.ga K "Stand") (.type "int") = true := e_17
  obtain ⟨e_18, e⟩ := He.ba e
  have e_q_2 : PySem.W.notFirst K (He.ga K "Stand") (.type "str") = true := e_18
  obtain ⟨e_19, e⟩ := He.ba e
  have e_q_3 : PySem.W.notFirst K (He.ga K "Stand") (.type "tuple") = true := e_19
  obtain ⟨e_20, e⟩ := He.ba e
  have e_q_4 : PySem.W.notFirst K (He.ga K "Stand") (.type "dict") = true := e_20
  obtain ⟨e_21, e⟩ := He.ba e
  have e_r_0 : PySem.W.kitOne K (.type "NoneType") (.ref (He.ga K "Stand")) = some false := of_decide_eq_true e_21
  obtain ⟨e_22, e⟩ := He.ba e
  have e_r_1 : PySem.W.kitOne K (.type "int") (.ref (He.ga K "Stand")) = some false := of_decide_eq_true e_22
  obtain ⟨e_23, e⟩ := He.ba e
  have e_r_2 : PySem.W.kitOne K (.type "str") (.ref (He.ga K "Stand")) = some false := of_decide_eq_true e_23
  obtain ⟨e_24, e⟩ := He.ba e
  have e_r_3 : PySem.W.kitOne K (.type "tuple") (.ref (He.ga K "Stand")) = some false := of_decide_eq_true e_24
  obtain ⟨e_25, e⟩ := He.ba e
  have e_r_4 : PySem.W.kitOne K (.type "dict") (.ref (He.ga K "Stand")) = some false := of_decide_eq_true e_25
  obtain ⟨e_26, e⟩ := He.ba e
  have e_q_n : PySem.W.notFirst K (He.ga K "Stand") (.ref (He.ga K "Net")) = true := e_26
  obtain ⟨e_27, e⟩ := He.ba e
  have e_r_n : PySem.W.kitOne K (.ref (He.ga K "Net")) (.ref (He.ga K "Stand")) = some false := of_decide_eq_true e_27
  obtain ⟨e_28, e⟩ := He.ba e
  have e_q_s : PySem.W.notFirst K (He.ga K "Net") (.ref (He.ga K "Stand")) = true := e_28
  obtain ⟨e_29, e⟩ := He.ba e
  have e_r_s : PySem.W.kitOne K (.ref (He.ga K "Stand")) (.ref (He.ga K "Net")) = some false := of_decide_eq_true e_29
  obtain ⟨fd_whole, F_whole⟩ := c.def_ 0 (d := d_whole) rfl
  have F_whole : FunD K "is_whole" "is_whole" (defArgs sWhole) (defBody sWhole) (defScope sWhole) [] [] (He.fAd K ("is_whole", none)) fd_whole := F_whole
  have F_whole := fun_ofD F_whole
  obtain ⟨fd_name, F_name⟩ := c.def_ 1 (d := d_name) rfl
  have F_name : FunD K "is_name" "is_name" (defArgs sName) (defBody sName) (defScope sName) [] [] (He.fAd K ("is_name", none)) fd_name := F_name
  have F_name := fun_ofD F_name
  obtain ⟨fd_meas, F_meas⟩ := c.def_ 2 (d := d_meas) rfl
  have F_meas : FunD K "is_measure" "is_measure" (defArgs sMeas) (defBody sMeas) (defScope sMeas) [] [] (He.fAd K ("is_measure", none)) fd_meas := F_meas
  have F_meas := fun_ofD F_meas
  obtain ⟨fd_pondOf, F_pondOf⟩ := c.def_ 3 (d := d_pondOf) rfl
  have F_pondOf : FunD K "is_pond_of" "is_pond_of" (defArgs sPondOf) (defBody sPondOf) (defScope sPondOf) [] [] (He.fAd K ("is_pond_of", none)) fd_pondOf := F_pondOf
  have F_pondOf := fun_ofD F_pondOf
  obtain ⟨fd_pairOf, F_pairOf⟩ := c.def_ 4 (d := d_pairOf) rfl
  have F_pairOf : FunD K "is_pair_of" "is_pair_of" (defArgs sPairOf) (defBody sPairOf) (defScope sPairOf) [] [] (He.fAd K ("is_pair_of", none)) fd_pairOf := F_pairOf
  have F_pairOf := fun_ofD F_pairOf
  obtain ⟨fd_goes, F_goes⟩ := c.def_ 5 (d := d_goes) rfl
  have F_goes : FunD K "goes_out" "goes_out" (defArgs sGoes) (defBody sGoes) (defScope sGoes) [] [] (He.fAd K ("goes_out", none)) fd_goes := F_goes
  have F_goes := fun_ofD F_goes
  obtain ⟨fd_comes, F_comes⟩ := c.def_ 6 (d := d_comes) rfl
  have F_comes : FunD K "comes_in" "comes_in" (defArgs sComes) (defBody sComes) (defScope sComes) [] [] (He.fAd K ("comes_in", none)) fd_comes := F_comes
  have F_comes := fun_ofD F_comes
  obtain ⟨fd_steps, F_steps⟩ := c.def_ 7 (d := d_steps) rfl
  have F_steps : FunD K "steps_out" "steps_out" (defArgs sSteps) (defBody sSteps) (defScope sSteps) [] [] (He.fAd K ("steps_out", none)) fd_steps := F_steps
  have F_steps := fun_ofD F_steps
  obtain ⟨fd_pOut, F_pOut⟩ := c.def_ 8 (d := d_pOut) rfl
  have F_pOut : FunD K "pipes_out" "pipes_out" (defArgs sPipesOut) (defBody sPipesOut) (defScope sPipesOut) [] [] (He.fAd K ("pipes_out", none)) fd_pOut := F_pOut
  have F_pOut := fun_ofD F_pOut
  obtain ⟨fd_pIn, F_pIn⟩ := c.def_ 9 (d := d_pIn) rfl
  have F_pIn : FunD K "pipes_in" "pipes_in" (defArgs sPipesIn) (defBody sPipesIn) (defScope sPipesIn) [] [] (He.fAd K ("pipes_in", none)) fd_pIn := F_pIn
  have F_pIn := fun_ofD F_pIn
  obtain ⟨fd_ckPonds, F_ckPonds⟩ := c.def_ 10 (d := d_ckPonds) rfl
  have F_ckPonds : FunD K "check_ponds" "check_ponds" (defArgs sCkPonds) (defBody sCkPonds) (defScope sCkPonds) [] [] (He.fAd K ("check_ponds", none)) fd_ckPonds := F_ckPonds
  have F_ckPonds := fun_ofD F_ckPonds
  obtain ⟨fd_ckPipes, F_ckPipes⟩ := c.def_ 11 (d := d_ckPipes) rfl
  have F_ckPipes : FunD K "check_pipes" "check_pipes" (defArgs sCkPipes) (defBody sCkPipes) (defScope sCkPipes) [] [] (He.fAd K ("check_pipes", none)) fd_ckPipes := F_ckPipes
  have F_ckPipes := fun_ofD F_ckPipes
  obtain ⟨fd_ckSides, F_ckSides⟩ := c.def_ 12 (d := d_ckSides) rfl
  have F_ckSides : FunD K "check_sides" "check_sides" (defArgs sCkSides) (defBody sCkSides) (defScope sCkSides) [] [] (He.fAd K ("check_sides", none)) fd_ckSides := F_ckSides
  have F_ckSides := fun_ofD F_ckSides
  obtain ⟨fd_ckWays, F_ckWays⟩ := c.def_ 13 (d := d_ckWays) rfl
  have F_ckWays : FunD K "check_ways" "check_ways" (defArgs sCkWays) (defBody sCkWays) (defScope sCkWays) [] [] (He.fAd K ("check_ways", none)) fd_ckWays := F_ckWays
  have F_ckWays := fun_ofD F_ckWays
  obtain ⟨fd_wrong, F_wrong⟩ := c.def_ 14 (d := d_wrong) rfl
  have F_wrong : FunD K "wrong_keys" "wrong_keys" (defArgs sWrong) (defBody sWrong) (defScope sWrong) [] [] (He.fAd K ("wrong_keys", none)) fd_wrong := F_wrong
  have F_wrong := fun_ofD F_wrong
  obtain ⟨fd_forAll, F_forAll⟩ := c.def_ 15 (d := d_forAll) rfl
  have F_forAll : FunD K "for_all_ponds" "for_all_ponds" (defArgs sForAll) (defBody sForAll) (defScope sForAll) [] [] (He.fAd K ("for_all_ponds", none)) fd_forAll := F_forAll
  have F_forAll := fun_ofD F_forAll
  obtain ⟨fd_pot, F_pot⟩ := c.def_ 16 (d := d_pot) rfl
  have F_pot : FunD K "_law_pot" "_law_pot" (defArgs sPot) (defBody sPot) (defScope sPot) [] [] (He.fAd K ("_law_pot", none)) fd_pot := F_pot
  have F_pot := fun_ofD F_pot
  obtain ⟨fd_draw, F_draw⟩ := c.def_ 17 (d := d_draw) rfl
  have F_draw : FunD K "_law_draw" "_law_draw" (defArgs sDraw) (defBody sDraw) (defScope sDraw) [] [] (He.fAd K ("_law_draw", none)) fd_draw := F_draw
  have F_draw := fun_ofD F_draw
  obtain ⟨fd_lname, F_lname⟩ := c.def_ 18 (d := d_lname) rfl
  have F_lname : FunD K "_law_name" "_law_name" (defArgs sLName) (defBody sLName) (defScope sLName) [] [] (He.fAd K ("_law_name", none)) fd_lname := F_lname
  have F_lname := fun_ofD F_lname
  obtain ⟨fd_closed, F_closed⟩ := c.def_ 19 (d := d_closed) rfl
  have F_closed : FunD K "_law_closed" "_law_closed" (defArgs sClosed) (defBody sClosed) (defScope sClosed) [] [] (He.fAd K ("_law_closed", none)) fd_closed := F_closed
  have F_closed := fun_ofD F_closed
  obtain ⟨fd_room, F_room⟩ := c.def_ 20 (d := d_room) rfl
  have F_room : FunD K "_law_room" "_law_room" (defArgs sRoom) (defBody sRoom) (defScope sRoom) [] [] (He.fAd K ("_law_room", none)) fd_room := F_room
  have F_room := fun_ofD F_room
  obtain ⟨fd_lnet, F_lnet⟩ := c.def_ 21 (d := d_lnet) rfl
  have F_lnet : FunD K "_law_net" "_law_net" (defArgs sNet) (defBody sNet) (defScope sNet) [] [] (He.fAd K ("_law_net", none)) fd_lnet := F_lnet
  have F_lnet := fun_ofD F_lnet
  obtain ⟨fd_some, F_some⟩ := c.def_ 22 (d := d_some) rfl
  have F_some : FunD K "_law_some" "_law_some" (defArgs sSome) (defBody sSome) (defScope sSome) [] [] (He.fAd K ("_law_some", none)) fd_some := F_some
  have F_some := fun_ofD F_some
  obtain ⟨fd_lsorted, F_lsorted⟩ := c.def_ 23 (d := d_lsorted) rfl
  have F_lsorted : FunD K "_law_sorted" "_law_sorted" (defArgs s_law_sorted) (defBody s_law_sorted) (defScope s_law_sorted) [] [] (He.fAd K ("_law_sorted", none)) fd_lsorted := F_lsorted
  have F_lsorted := fun_ofD F_lsorted
  obtain ⟨fd_lall, F_lall⟩ := c.def_ 24 (d := d_lall) rfl
  have F_lall : FunD K "_law_all" "_law_all" (defArgs s_law_all) (defBody s_law_all) (defScope s_law_all) [] [] (He.fAd K ("_law_all", none)) fd_lall := F_lall
  have F_lall := fun_ofD F_lall
  obtain ⟨fd_ltext, F_ltext⟩ := c.def_ 25 (d := d_ltext) rfl
  have F_ltext : FunD K "_law_text" "_law_text" (defArgs s_law_text) (defBody s_law_text) (defScope s_law_text) [] [] (He.fAd K ("_law_text", none)) fd_ltext := F_ltext
  have F_ltext := fun_ofD F_ltext
  obtain ⟨fd_otherw, F_otherw⟩ := c.def_ 26 (d := d_otherw) rfl
  have F_otherw : FunD K "_law_otherwise" "_law_otherwise" (defArgs s_law_otherwise) (defBody s_law_otherwise) (defScope s_law_otherwise) [] [] (He.fAd K ("_law_otherwise", none)) fd_otherw := F_otherw
  have F_otherw := fun_ofD F_otherw
  obtain ⟨fd_lmore, F_lmore⟩ := c.def_ 27 (d := d_lmore) rfl
  have F_lmore : FunD K "_law_more" "_law_more" (defArgs sMore) (defBody sMore) (defScope sMore) [] [] (He.fAd K ("_law_more", none)) fd_lmore := F_lmore
  have F_lmore := fun_ofD F_lmore
  obtain ⟨fd_isTold, F_isTold⟩ := c.def_ 28 (d := d_isTold) rfl
  have F_isTold : FunD K "_law_is_told" "_law_is_told" (defArgs sIsTold) (defBody sIsTold) (defScope sIsTold) [] [] (He.fAd K ("_law_is_told", none)) fd_isTold := F_isTold
  have F_isTold := fun_ofD F_isTold
  obtain ⟨fd_unlike, F_unlike⟩ := c.def_ 29 (d := d_unlike) rfl
  have F_unlike : FunD K "_law_unlike" "_law_unlike" (defArgs s_law_unlike) (defBody s_law_unlike) (defScope s_law_unlike) [] [] (He.fAd K ("_law_unlike", none)) fd_unlike := F_unlike
  have F_unlike := fun_ofD F_unlike
  obtain ⟨fd_others, F_others⟩ := c.def_ 30 (d := d_others) rfl
  have F_others : FunD K "_law_others" "_law_others" (defArgs s_law_others) (defBody s_law_others) (defScope s_law_others) [] [] (He.fAd K ("_law_others", none)) fd_others := F_others
  have F_others := fun_ofD F_others
  obtain ⟨fd_law, F_law⟩ := c.def_ 31 (d := d_law) rfl
  have F_law : FunD K "law" "law" (defArgs sLaw) (defBody sLaw) (defScope sLaw) [] [] (He.fAd K ("law", none)) fd_law := F_law
  obtain ⟨fd_fig, F_fig⟩ := c.def_ 32 (d := d_fig) rfl
  have F_fig : FunD K "figures" "figures" (defArgs s_figures) (defBody s_figures) (defScope s_figures) [] [] (He.fAd K ("figures", none)) fd_fig := F_fig
  have F_fig := fun_ofD F_fig
  obtain ⟨fd_shown, F_shown⟩ := c.def_ 33 (d := d_shown) rfl
  have F_shown : FunD K "shown" "shown" (defArgs s_shown) (defBody s_shown) (defScope s_shown) [] [] (He.fAd K ("shown", none)) fd_shown := F_shown
  have F_shown := fun_ofD F_shown
  obtain ⟨fd_has, F_has⟩ := c.def_ 34 (d := d_has) rfl
  have F_has : FunD K "has_pond" "Net.has_pond" (defArgs mNet_has_pond) (defBody mNet_has_pond) (defScope mNet_has_pond) [] [] (He.fAd K ("Net", some "has_pond")) fd_has := F_has
  have F_has := fun_ofD F_has
  obtain ⟨fd_chk, F_chk⟩ := c.def_ 35 (d := d_chk) rfl
  have F_chk : FunD K "check_pond" "Net.check_pond" (defArgs mNet_check_pond) (defBody mNet_check_pond) (defScope mNet_check_pond) [] [] (He.fAd K ("Net", some "check_pond")) fd_chk := F_chk
  have F_chk := fun_ofD F_chk
  obtain ⟨fd_ponds, F_ponds⟩ := c.def_ 36 (d := d_ponds) rfl
  have F_ponds : FunD K "ponds" "Net.ponds" (defArgs mNet_ponds) (defBody mNet_ponds) (defScope mNet_ponds) [] [] (He.fAd K ("Net", some "ponds")) fd_ponds := F_ponds
  have F_ponds := fun_ofD F_ponds
  obtain ⟨fd_brim, F_brim⟩ := c.def_ 37 (d := d_brim) rfl
  have F_brim : FunD K "brim" "Net.brim" (defArgs mNet_brim) (defBody mNet_brim) (defScope mNet_brim) [] [] (He.fAd K ("Net", some "brim")) fd_brim := F_brim
  have F_brim := fun_ofD F_brim
  obtain ⟨fd_ins, F_ins⟩ := c.def_ 38 (d := d_ins) rfl
  have F_ins : FunD K "ins" "Net.ins" (defArgs mNet_ins) (defBody mNet_ins) (defScope mNet_ins) [] [] (He.fAd K ("Net", some "ins")) fd_ins := F_ins
  have F_ins := fun_ofD F_ins
  obtain ⟨fd_brims, F_brims⟩ := c.def_ 39 (d := d_brims) rfl
  have F_brims : FunD K "brims" "Net.brims" (defArgs mNet_brims) (defBody mNet_brims) (defScope mNet_brims) [] [] (He.fAd K ("Net", some "brims")) fd_brims := F_brims
  have F_brims := fun_ofD F_brims
  obtain ⟨fd_pipes, F_pipes⟩ := c.def_ 40 (d := d_pipes) rfl
  have F_pipes : FunD K "pipes" "Net.pipes" (defArgs mNet_pipes) (defBody mNet_pipes) (defScope mNet_pipes) [] [] (He.fAd K ("Net", some "pipes")) fd_pipes := F_pipes
  have F_pipes := fun_ofD F_pipes
  obtain ⟨fd_snet, F_snet⟩ := c.def_ 41 (d := d_snet) rfl
  have F_snet : FunD K "net" "Stand.net" (defArgs mStand_net) (defBody mStand_net) (defScope mStand_net) [] [] (He.fAd K ("Stand", some "net")) fd_snet := F_snet
  have F_snet := fun_ofD F_snet
  obtain ⟨fd_poured, F_poured⟩ := c.def_ 42 (d := d_poured) rfl
  have F_poured : FunD K "poured" "Stand.poured" (defArgs mStand_poured) (defBody mStand_poured) (defScope mStand_poured) [] [] (He.fAd K ("Stand", some "poured")) fd_poured := F_poured
  have F_poured := fun_ofD F_poured
  obtain ⟨fd_count, F_count⟩ := c.def_ 43 (d := d_count) rfl
  have F_count : FunD K "count" "Stand.count" (defArgs mStand_count) (defBody mStand_count) (defScope mStand_count) [] [] (He.fAd K ("Stand", some "count")) fd_count := F_count
  have F_count := fun_ofD F_count
  obtain ⟨fd_water, F_water⟩ := c.def_ 44 (d := d_water) rfl
  have F_water : FunD K "water" "Stand.water" (defArgs mStand_water) (defBody mStand_water) (defScope mStand_water) [] [] (He.fAd K ("Stand", some "water")) fd_water := F_water
  have F_water := fun_ofD F_water
  obtain ⟨fd_pours, F_pours⟩ := c.def_ 45 (d := d_pours) rfl
  have F_pours : FunD K "pours" "Stand.pours" (defArgs mStand_pours) (defBody mStand_pours) (defScope mStand_pours) [] [] (He.fAd K ("Stand", some "pours")) fd_pours := F_pours
  have F_pours := fun_ofD F_pours
  obtain ⟨fd_counts, F_counts⟩ := c.def_ 46 (d := d_counts) rfl
  have F_counts : FunD K "counts" "Stand.counts" (defArgs mStand_counts) (defBody mStand_counts) (defScope mStand_counts) [] [] (He.fAd K ("Stand", some "counts")) fd_counts := F_counts
  have F_counts := fun_ofD F_counts
  obtain ⟨fd_waters, F_waters⟩ := c.def_ 47 (d := d_waters) rfl
  have F_waters : FunD K "waters" "Stand.waters" (defArgs mStand_waters) (defBody mStand_waters) (defScope mStand_waters) [] [] (He.fAd K ("Stand", some "waters")) fd_waters := F_waters
  have F_waters := fun_ofD F_waters
  obtain ⟨fd_nEq, F_nEq⟩ := c.def_ 48 (d := d_nEq) rfl
  have F_nEq : FunD K "__eq__" "Net.__eq__" (defArgs mNet_eq) (defBody mNet_eq) (defScope mNet_eq) [] [] (He.fAd K ("Net", some "__eq__")) fd_nEq := F_nEq
  have F_nEq := fun_ofD F_nEq
  obtain ⟨fd_sEq, F_sEq⟩ := c.def_ 49 (d := d_sEq) rfl
  have F_sEq : FunD K "__eq__" "Stand.__eq__" (defArgs mStand_eq) (defBody mStand_eq) (defScope mStand_eq) [] [] (He.fAd K ("Stand", some "__eq__")) fd_sEq := F_sEq
  have F_sEq := fun_ofD F_sEq
  obtain ⟨fd_nRepr, F_nRepr⟩ := c.def_ 50 (d := d_nRepr) rfl
  have F_nRepr : FunD K "__repr__" "Net.__repr__" (defArgs mNet_repr) (defBody mNet_repr) (defScope mNet_repr) [] [] (He.fAd K ("Net", some "__repr__")) fd_nRepr := F_nRepr
  have F_nRepr := fun_ofD F_nRepr
  obtain ⟨fd_sRepr, F_sRepr⟩ := c.def_ 51 (d := d_sRepr) rfl
  have F_sRepr : FunD K "__repr__" "Stand.__repr__" (defArgs mStand_repr) (defBody mStand_repr) (defScope mStand_repr) [] [] (He.fAd K ("Stand", some "__repr__")) fd_sRepr := F_sRepr
  have F_sRepr := fun_ofD F_sRepr
  obtain ⟨fd_nI, F_nI⟩ := c.def_ 52 (d := d_nI) rfl
  have F_nI : FunD K "__init__" "Net.__init__" (defArgs mNet_init) (defBody mNet_init) (defScope mNet_init) [.non] [] (He.fAd K ("Net", some "__init__")) fd_nI := F_nI
  obtain ⟨fd_sI, F_sI⟩ := c.def_ 53 (d := d_sI) rfl
  have F_sI : FunD K "__init__" "Stand.__init__" (defArgs mStand_init) (defBody mStand_init) (defScope mStand_init) [.non, .non] [] (He.fAd K ("Stand", some "__init__")) fd_sI := F_sI
  obtain ⟨tk_0, w_0⟩ := He.int_ok X G (c.fact 82 (f := .int "MOST_LETTERS" 8) rfl)
  obtain ⟨tk_1, w_1⟩ := He.str_ok X G (c.fact 83 (f := .str "LETTERS" abc) rfl)
  obtain ⟨tk_2, w_2⟩ := He.int_ok X G (c.fact 84 (f := .int "MOST_BRIM" 60) rfl)
  obtain ⟨tk_3, w_3⟩ := He.int_ok X G (c.fact 85 (f := .int "MOST_PONDS" 12) rfl)
  obtain ⟨tk_4, w_4⟩ := He.int_ok X G (c.fact 86 (f := .int "PART" 10000000000000000000000000000000000000000000000000000000000000000) rfl)
  obtain ⟨tk_5, w_5⟩ := He.int_ok X G (c.fact 87 (f := .int "PART_FIGURES" 64) rfl)
  exact all_test (h := h) F_whole (He.glo_ok X G (c.fact 0 (f := .glo "is_whole") rfl)) F_name (He.glo_ok X G (c.fact 1 (f := .glo "is_name") rfl)) F_meas (He.glo_ok X G (c.fact 2 (f := .glo "is_measure") rfl)) F_pondOf (He.glo_ok X G (c.fact 3 (f := .glo "is_pond_of") rfl)) F_pairOf (He.glo_ok X G (c.fact 4 (f := .glo "is_pair_of") rfl)) F_goes (He.glo_ok X G (c.fact 5 (f := .glo "goes_out") rfl)) F_comes (He.glo_ok X G (c.fact 6 (f := .glo "comes_in") rfl)) F_steps (He.glo_ok X G (c.fact 7 (f := .glo "steps_out") rfl)) F_pOut (He.glo_ok X G (c.fact 8 (f := .glo "pipes_out") rfl)) F_pIn (He.glo_ok X G (c.fact 9 (f := .glo "pipes_in") rfl)) F_ckPonds (He.glo_ok X G (c.fact 10 (f := .glo "check_ponds") rfl)) F_ckPipes (He.glo_ok X G (c.fact 11 (f := .glo "check_pipes") rfl)) F_ckSides (He.glo_ok X G (c.fact 12 (f := .glo "check_sides") rfl)) F_ckWays (He.glo_ok X G (c.fact 13 (f := .glo "check_ways") rfl)) F_wrong (He.glo_ok X G (c.fact 14 (f := .glo "wrong_keys") rfl)) F_forAll (He.glo_ok X G (c.fact 15 (f := .glo "for_all_ponds") rfl)) F_pot (He.glo_ok X G (c.fact 16 (f := .glo "_law_pot") rfl)) F_draw (He.glo_ok X G (c.fact 17 (f := .glo "_law_draw") rfl)) F_lname (He.glo_ok X G (c.fact 18 (f := .glo "_law_name") rfl)) F_closed (He.glo_ok X G (c.fact 19 (f := .glo "_law_closed") rfl)) F_room (He.glo_ok X G (c.fact 20 (f := .glo "_law_room") rfl)) F_lnet (He.glo_ok X G (c.fact 21 (f := .glo "_law_net") rfl)) F_some (He.glo_ok X G (c.fact 22 (f := .glo "_law_some") rfl)) F_lsorted (He.glo_ok X G (c.fact 23 (f := .glo "_law_sorted") rfl)) F_lall (He.glo_ok X G (c.fact 24 (f := .glo "_law_all") rfl)) F_ltext (He.glo_ok X G (c.fact 25 (f := .glo "_law_text") rfl)) F_otherw (He.glo_ok X G (c.fact 26 (f := .glo "_law_otherwise") rfl)) F_lmore (He.glo_ok X G (c.fact 27 (f := .glo "_law_more") rfl)) F_isTold (He.glo_ok X G (c.fact 28 (f := .glo "_law_is_told") rfl)) F_unlike (He.glo_ok X G (c.fact 29 (f := .glo "_law_unlike") rfl)) F_others (He.glo_ok X G (c.fact 30 (f := .glo "_law_others") rfl)) F_law (He.glo_ok X G (c.fact 31 (f := .glo "law") rfl)) F_fig (He.glo_ok X G (c.fact 32 (f := .glo "figures") rfl)) F_shown (He.glo_ok X G (c.fact 33 (f := .glo "shown") rfl)) F_has (He.meth_ok (c.fact 34 (f := .meth "Net" "has_pond") rfl)) F_chk (He.meth_ok (c.fact 35 (f := .meth "Net" "check_pond") rfl)) F_ponds (He.meth_ok (c.fact 36 (f := .meth "Net" "ponds") rfl)) F_brim (He.meth_ok (c.fact 37 (f := .meth "Net" "brim") rfl)) F_ins (He.meth_ok (c.fact 38 (f := .meth "Net" "ins") rfl)) F_brims (He.meth_ok (c.fact 39 (f := .meth "Net" "brims") rfl)) F_pipes (He.meth_ok (c.fact 40 (f := .meth "Net" "pipes") rfl)) F_snet (He.meth_ok (c.fact 41 (f := .meth "Stand" "net") rfl)) F_poured (He.meth_ok (c.fact 42 (f := .meth "Stand" "poured") rfl)) F_count (He.meth_ok (c.fact 43 (f := .meth "Stand" "count") rfl)) F_water (He.meth_ok (c.fact 44 (f := .meth "Stand" "water") rfl)) F_pours (He.meth_ok (c.fact 45 (f := .meth "Stand" "pours") rfl)) F_counts (He.meth_ok (c.fact 46 (f := .meth "Stand" "counts") rfl)) F_waters (He.meth_ok (c.fact 47 (f := .meth "Stand" "waters") rfl)) F_nEq (He.meth_ok (c.fact 48 (f := .meth "Net" "__eq__") rfl)) F_sEq (He.meth_ok (c.fact 49 (f := .meth "Stand" "__eq__") rfl)) F_nRepr (He.meth_ok (c.fact 50 (f := .meth "Net" "__repr__") rfl)) F_sRepr (He.meth_ok (c.fact 51 (f := .meth "Stand" "__repr__") rfl)) F_nI (He.mkr_ok (c.fact 52 (f := .mkr "Net") rfl)) F_sI (He.mkr_ok (c.fact 53 (f := .mkr "Stand") rfl)) ⟨He.cls_ok (c.fact 54 (f := .cls "Net") rfl), He.noat_ok (c.fact 55 (f := .noat "Net" "brim_by_pond") rfl), He.noat_ok (c.fact 56 (f := .noat "Net" "width_by_pair") rfl), He.noat_ok (c.fact 57 (f := .noat "Net" "outs_by_pond") rfl), He.noat_ok (c.fact 58 (f := .noat "Net" "ins_by_pond") rfl), He.glo_ok X G (c.fact 59 (f := .glo "Net") rfl)⟩ ⟨He.cls_ok (c.fact 60 (f := .cls "Stand") rfl), He.noat_ok (c.fact 61 (f := .noat "Stand" "own_net") rfl), He.noat_ok (c.fact 62 (f := .noat "Stand" "poured_by_pond") rfl), He.noat_ok (c.fact 63 (f := .noat "Stand" "count_by_pond") rfl), He.glo_ok X G (c.fact 64 (f := .glo "Stand") rfl)⟩ e_i_ha e_i_haS e_i_hn e_i_htk e_i_hm e_i_hmS e_u_0 e_u_1 e_u_2 e_u_3 e_u_4 e_us_0 e_us_1 e_us_2 e_us_3 e_us_4 e_q_0 e_q_1 e_q_2 e_q_3 e_q_4 e_r_0 e_r_1 e_r_2 e_r_3 e_r_4 e_q_n e_r_n e_q_s e_r_s (He.free_ok X G (c.fact 65 (f := .free "isinstance") rfl)) (He.free_ok X G (c.fact 66 (f := .free "int") rfl)) (He.free_ok X G (c.fact 67 (f := .free "bool") rfl)) (He.free_ok X G (c.fact 68 (f := .free "str") rfl)) (He.free_ok X G (c.fact 69 (f := .free "len") rfl)) (He.free_ok X G (c.fact 70 (f := .free "all") rfl)) (He.free_ok X G (c.fact 71 (f := .free "tuple") rfl)) (He.free_ok X G (c.fact 72 (f := .free "sum") rfl)) (He.free_ok X G (c.fact 73 (f := .free "sorted") rfl)) (He.free_ok X G (c.fact 74 (f := .free "dict") rfl)) (He.free_ok X G (c.fact 75 (f := .free "list") rfl)) (He.free_ok X G (c.fact 76 (f := .free "divmod") rfl)) (He.free_ok X G (c.fact 77 (f := .free "max") rfl)) (He.free_ok X G (c.fact 78 (f := .free "abs") rfl)) (He.free_ok X G (c.fact 79 (f := .free "range") rfl)) (He.free_ok X G (c.fact 80 (f := .free "min") rfl)) (He.free_ok X G (c.fact 81 (f := .free "repr") rfl)) w_0 w_1 w_2 w_3 w_4 w_5
end Nl
open PySem PySem.W PySem.Calls PyProof.Rows
set_option maxHeartbeats 0 in
theorem PySem.Challenge.cw_backwater_k28_stands_alike_holds : PySem.Challenge.rw_backwater_k28_stands_alike.Holds := by
  w_on; o_law
  refine HandSHeadRun.head_any (r := OpenLaw.row PySem.Challenge.rw_backwater_k28_stands_alike) (q := view (OpenLaw.row PySem.Challenge.rw_backwater_k28_stands_alike).prog [60]) (H := Nl.hookN) (ob := Nl.obN) (M := 8000) (loose := Nl.looseAll) (d := HandSHeadRun.topDef (OpenLaw.row PySem.Challenge.rw_backwater_k28_stands_alike).prog 60) (kwd := []) Nl.obN_eq
    (by kernel_rfl) (fun s => by kernel_rfl) Nl.run (by kernel_rfl) (by kernel_rfl) (by kernel_rfl) (by rfl) (by first | assumption | decide +kernel) (by decide +kernel) ⟨rfl, rfl, rfl, rfl, rfl, by decide +kernel⟩ ?hw ?hc
  case hw => w_witness2
  case hc =>
    refine Rl.walk_ofG (l := PySem.Challenge.rw_backwater_k28_stands_alike) (n := 63) (k := 8) (x := "_law_script") (CX := L2.CX0) rfl (by decide) (by kernel_rfl) ⟨rfl, by decide, by decide⟩ ?F (fun _ _ _ _ z => z)
    intro w mg fa h Y G hmg0
    obtain ⟨K, KX, c, e⟩ := Y
    have hmg : mg ("law" : PySem.Str) = some (.ref fa) := by
      have e : (HandSHeadRun.topDef (OpenLaw.row PySem.Challenge.rw_backwater_k28_stands_alike).prog 60).name = ("law" : PySem.Str) := by kernel_rfl
      rw [← e]
      exact hmg0
    obtain ⟨fd, hb, hF⟩ := Nl.facts (l := PySem.Challenge.rw_backwater_k28_stands_alike) (w := w) KX G hmg c e
    exact ⟨K, fd, Nl.spLaw K, KX, hb, fun H a ns hl _ hS => ⟨a, ns, rfl, hS, hl, fun _ => rfl⟩, hF⟩
