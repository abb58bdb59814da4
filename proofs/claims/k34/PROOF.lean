import PyProof.Rows.All
import Wide.All
import OpenK.AllK
import Wide.FinOn
import HandS.ForMost
import HandS.Walk
import HandS.IsInst
import HandS.WideBits
import HandS.Wide
import HandS.Defaults
import HandS.Flow
import HandS.More
import HandS.DictComp
import HandS.SetBool
import HandS.SetTxt0
import HandS.Set
import KE.KDictWalk
import KE.KDictSum
import KE.KSortTupG
import HandS.Head0
import HandS.Head1
import HandS.Head2
import HandS.HeadEnd
import HandS.HeadHook1
import HandS.HeadHook2
import HandS.Nested
import HandS.ExcInit
import HandS.ExcField
import HandS.ExcOwn
import HandS.WordsExc
import HandS.FStr
import KE.KExcSuper
import KE.KExcIs
import HandS.ExcIs
import HandS.Ends
import PyProof.ReprRoads
import PyProof.ReprLen
import HandS.WordsDict
import HandS.Style
import HandS.DictTup
import HandS.DeepEq
import KE.KDictCopyH
import HandS.Conv
import HandS.Iter
import HandS.Dict
import KE.KeyNested
import KE.KDictKeyed
import HandS.Small
import HandS.FStrTup
import HandS.MakeKw
import HandS.RaiseMore
import PyProof.CallStr
import PyProof.EqAt
import KE.KEqNest
import HandS.Deep
import PyProof.EqKinds
import HandS.ExcCtx
import HandS.HotCalls
import HandS.Finally
import PySem.Challenge.RW_backwater_k34_shares_hold
set_option Elab.async false
set_option linter.all false
set_option maxRecDepth 100000
section
namespace Nt
open PySem
/-! ### nets, as plain lists -/
abbrev Br := List (Str × Int)
abbrev Pi := List ((Str × Str) × Int)
def nms (B : Br) : List Str := B.map (·.1)
def sumOf (f : (Str × Str) × Int → Bool) (P : Pi) : Int := ((P.filter f).map (·.2)).sum
def outW (P : Pi) (x : Str) : Int := sumOf (fun p => decide (p.1.1 = x)) P
def inW (P : Pi) (x : Str) : Int := sumOf (fun p => decide (p.1.2 = x)) P
inductive Opn (B : Br) (P : Pi) : Str → Prop
  | soak {x : Str} {b : Int} : (x, b) ∈ B → outW P x < b → Opn B P x
  | step {x y : Str} {w : Int} : ((x, y), w) ∈ P → Opn B P y → Opn B P x
structure Wf (nm : Str → Prop) (B : Br) (P : Pi) : Prop where
  nb : (nms B).Nodup
  lb : B.length ≤ 12
  rb : ∀ p ∈ B, nm p.1 ∧ 1 ≤ p.2 ∧ p.2 ≤ 60
  np : (P.map (·.1)).Nodup
  lp : P.length ≤ 200
  rp : ∀ p ∈ P, p.1.1 ∈ nms B ∧ p.1.2 ∈ nms B ∧ p.1.1 ≠ p.1.2 ∧ 1 ≤ p.2 ∧ p.2 ≤ 60
def Fit (B : Br) (P : Pi) : Prop := ∀ p ∈ B, outW P p.1 ≤ p.2 ∧ inW P p.1 ≤ p.2
theorem sumOf_nonneg {f : (Str × Str) × Int → Bool} {P : Pi} (h : ∀ p ∈ P, 0 ≤ p.2) : 0 ≤ sumOf f P := by
  unfold sumOf
  induction P with
  | nil => exact Int.le_refl _
  | cons p r ih =>
    have h1 := ih fun q hq => h q (List.mem_cons_of_mem _ hq)
    have h2 := h p List.mem_cons_self
    rw [List.filter_cons]
    split
    · rw [List.map_cons, List.sum_cons]; omega
    · exact h1
theorem perm_sum {l m : List Int} (h : l.Perm m) : l.sum = m.sum := by
  induction h with
  | nil => rfl
  | cons x _ ih => rw [List.sum_cons, List.sum_cons, ih]
  | swap x y l => simp only [List.sum_cons]; omega
  | trans _ _ a b => exact a.trans b
theorem sumOf_perm {f : (Str × Str) × Int → Bool} {P P' : Pi} (h : P.Perm P') : sumOf f P = sumOf f P' := by
  unfold sumOf
  exact perm_sum ((h.filter f).map _)
theorem outW_perm {P P' : Pi} (h : P.Perm P') (x : Str) : outW P x = outW P' x := sumOf_perm h
theorem inW_perm {P P' : Pi} (h : P.Perm P') (x : Str) : inW P x = inW P' x := sumOf_perm h
theorem Opn.perm {B B' : Br} {P P' : Pi} (hB : B.Perm B') (hP : P.Perm P') {x : Str} (h : Opn B P x) : Opn B' P' x := by
  induction h with
  | soak m l => exact .soak (hB.mem_iff.mp m) (by rw [← outW_perm hP]; exact l)
  | step m _ ih => exact .step (hP.mem_iff.mp m) ih
theorem Wf.perm {nm : Str → Prop} {B B' : Br} {P P' : Pi} (h : Wf nm B P) (hB : B.Perm B') (hP : P.Perm P') : Wf nm B' P' where
  nb := (hB.map Prod.fst).nodup_iff.mp h.nb
  lb := by rw [← hB.length_eq]; exact h.lb
  rb := fun p hp => h.rb p (hB.mem_iff.mpr hp)
  np := (hP.map Prod.fst).nodup_iff.mp h.np
  lp := by rw [← hP.length_eq]; exact h.lp
  rp := fun p hp => by
    obtain ⟨a, b, c⟩ := h.rp p (hP.mem_iff.mpr hp)
    exact ⟨(hB.map Prod.fst).mem_iff.mp a, (hB.map Prod.fst).mem_iff.mp b, c⟩
/-! ### lookups -/
def getB (B : Br) (x : Str) : Option Int := (B.find? fun p => decide (p.1 = x)).map (·.2)
theorem getB_mem {B : Br} {x : Str} {b : Int} (h : getB B x = some b) : (x, b) ∈ B := by
  unfold getB at h
  cases e : B.find? fun p => decide (p.1 = x) with
  | none => rw [e] at h; cases h
  | some p =>
    rw [e] at h
    have h1 := List.mem_of_find?_eq_some e
    have h2 := List.find?_some e
    have h3 : p.1 = x := of_decide_eq_true h2
    have h4 : p.2 = b := Option.some.inj h
    rw [← h3, ← h4]; exact h1
theorem getB_of_mem {B : Br} (nd : (nms B).Nodup) {x : Str} {b : Int} (h : (x, b) ∈ B) : getB B x = some b := by
  induction B with
  | nil => exact (List.not_mem_nil h).elim
  | cons p r ih =>
    obtain ⟨n1, n2⟩ := List.nodup_cons.mp (show (p.1 :: nms r).Nodup from nd)
    unfold getB
    rw [List.find?_cons]
    rcases List.mem_cons.mp h with e | e
    · rw [← e]; simp
    · have ne : p.1 ≠ x := fun z => n1 (by rw [z]; exact List.mem_map.mpr ⟨_, e, rfl⟩)
      rw [decide_eq_false ne]
      exact ih n2 e
theorem getB_none {B : Br} {x : Str} (h : x ∉ nms B) : getB B x = none := by
  unfold getB
  rw [List.find?_eq_none.mpr (fun p hp => by
    have : p.1 ≠ x := fun e => h (List.mem_map.mpr ⟨p, hp, e⟩)
    simpa using this)]
  rfl
theorem getB_some {B : Br} {x : Str} (h : x ∈ nms B) : ∃ b, getB B x = some b := by
  obtain ⟨p, hp, e⟩ := List.mem_map.mp h
  cases e2 : B.find? fun q => decide (q.1 = x) with
  | none =>
    have := List.find?_eq_none.mp e2 p hp
    rw [decide_eq_true e] at this
    exact absurd rfl this
  | some q => exact ⟨q.2, by unfold getB; rw [e2]; rfl⟩
/-! ### who has a way out, found step by step -/
structure Bfs (B : Br) (P : Pi) (S E : List Str) : Prop where
  nd : S.Nodup
  sub : ∀ x ∈ S, x ∈ nms B ∧ Opn B P x
  edge : ∀ x ∈ E, x ∈ S
  soak : ∀ x b, (x, b) ∈ B → outW P x < b → x ∈ S
  back : ∀ x y w, ((x, y), w) ∈ P → y ∈ S → x ∈ S ∨ y ∈ E
theorem Bfs.done {nm : Str → Prop} {B : Br} {P : Pi} {S : List Str} (h : Bfs B P S []) {x : Str} (o : Opn B P x) : x ∈ S := by
  induction o with
  | soak m l => exact h.soak _ _ m l
  | step m _ ih =>
    rcases h.back _ _ _ m ih with z | z
    · exact z
    · exact (List.not_mem_nil z).elim
/-- one round: the next edge has just those that lead into the edge and are not yet there -/
theorem Bfs.next {nm : Str → Prop} {B : Br} {P : Pi} (wf : Wf nm B P) {S E E' : List Str} (h : Bfs B P S E) (nd' : E'.Nodup) (he : ∀ x, x ∈ E' ↔ (∃ y w, ((x, y), w) ∈ P ∧ y ∈ E) ∧ x ∉ S) : Bfs B P (S ++ E') E' where
  nd := by
    rw [List.nodup_append]
    refine ⟨h.nd, nd', fun a ha b hb e => ?_⟩
    subst e
    exact ((he a).mp hb).2 ha
  sub := fun x hx => by
    rcases List.mem_append.mp hx with z | z
    · exact h.sub x z
    · obtain ⟨⟨y, w, m, hy⟩, _⟩ := (he x).mp z
      exact ⟨(wf.rp _ m).1, .step m (h.sub y (h.edge y hy)).2⟩
  edge := fun x hx => List.mem_append_right _ hx
  soak := fun x b m l => List.mem_append_left _ (h.soak x b m l)
  back := fun x y w m hy => by
    rcases List.mem_append.mp hy with z | z
    · rcases h.back x y w m z with q | q
      · exact .inl (List.mem_append_left _ q)
      · by_cases hx : x ∈ S
        · exact .inl (List.mem_append_left _ hx)
        · exact .inl (List.mem_append_right _ ((he x).mpr ⟨⟨y, w, m, q⟩, hx⟩))
    · exact .inr z
theorem len_le_of_sub {l m : List Str} (nd : l.Nodup) (h : ∀ x ∈ l, x ∈ m) : l.length ≤ m.length := by
  induction l generalizing m with
  | nil => exact Nat.zero_le _
  | cons x r ih =>
    obtain ⟨n1, n2⟩ := List.nodup_cons.mp nd
    have pm := List.perm_cons_erase (h x List.mem_cons_self)
    have := ih (m := m.erase x) n2 fun y hy => by
      rcases List.mem_cons.mp (pm.mem_iff.mp (h y (List.mem_cons_of_mem _ hy))) with e | e
      · exact absurd (e ▸ hy) n1
      · exact e
    rw [pm.length_eq, List.length_cons, List.length_cons]
    omega
/-! ### who has none, by leaving out -/
def leaves (P : Pi) (L : List Str) : List Str := L.filter fun x => (P.filter fun p => decide (p.1.1 = x)).all fun p => decide (p.1.2 ∈ L)
def leavesN (P : Pi) : Nat → List Str → List Str
  | 0, L => L
  | n + 1, L => leavesN P n (leaves P L)
theorem leaves_len (P : Pi) (L : List Str) : (leaves P L).length ≤ L.length := List.length_filter_le _ _
theorem leaves_fix {P : Pi} {L : List Str} (h : (leaves P L).length = L.length) : leaves P L = L := List.filter_eq_self.mpr (List.length_filter_eq_length_iff.mp h)
theorem leavesN_fix (P : Pi) : ∀ (n : Nat) (L : List Str), leaves P L = L → leavesN P n L = L
  | 0, _, _ => rfl
  | n + 1, L, h => by
    show leavesN P n (leaves P L) = L
    rw [h]; exact leavesN_fix P n L h
theorem leavesN_end (P : Pi) : ∀ (n : Nat) (L : List Str), L.length ≤ n → leaves P (leavesN P n L) = leavesN P n L
  | 0, L, h => by
    have : L = [] := List.length_eq_zero_iff.mp (Nat.le_zero.mp h)
    subst this; rfl
  | n + 1, L, h => by
    show leaves P (leavesN P n (leaves P L)) = leavesN P n (leaves P L)
    by_cases e : (leaves P L).length = L.length
    · have f := leaves_fix e
      rw [f, leavesN_fix P n L f, f]
    · have := leaves_len P L
      exact leavesN_end P n _ (by omega)
theorem leavesN_sub (P : Pi) : ∀ (n : Nat) (L : List Str) (x : Str), x ∈ leavesN P n L → x ∈ L
  | 0, _, _, h => h
  | n + 1, L, x, h => (List.mem_filter.mp (leavesN_sub P n _ x h)).1
theorem leaves_keep {P : Pi} {L : List Str} {x : Str} (hx : x ∈ L) (h : ∀ y w, ((x, y), w) ∈ P → y ∈ L) : x ∈ leaves P L := by
  refine List.mem_filter.mpr ⟨hx, List.all_eq_true.mpr fun p hp => ?_⟩
  obtain ⟨h1, h2⟩ := List.mem_filter.mp hp
  have e : p.1.1 = x := of_decide_eq_true h2
  refine decide_eq_true (h p.1.2 p.2 ?_)
  rw [← e]; exact h1
theorem leavesN_keep (P : Pi) (T : Str → Prop) (ht : ∀ x y w, T x → ((x, y), w) ∈ P → T y) : ∀ (n : Nat) (L : List Str), (∀ x, T x → x ∈ L) → ∀ x, T x → x ∈ leavesN P n L
  | 0, _, h => h
  | n + 1, L, h => leavesN_keep P T ht n _ fun x hx => leaves_keep (h x hx) fun y w m => h y (ht x y w hx m)
theorem fix_closed {B : Br} {P : Pi} {L : List Str} (hl : ∀ x ∈ L, ∀ b, (x, b) ∈ B → ¬ outW P x < b) (hf : leaves P L = L) {x : Str} (o : Opn B P x) : x ∉ L := by
  induction o with
  | soak m l => exact fun hx => hl _ hx _ m l
  | step m _ ih =>
    intro hx
    rw [← hf] at hx
    have := List.all_eq_true.mp (List.mem_filter.mp hx).2 _ (List.mem_filter.mpr ⟨m, decide_eq_true rfl⟩)
    exact ih (of_decide_eq_true this)
/-- what is left in the end: those without a way out -/
theorem leavesN_iff {nm : Str → Prop} {B : Br} {P : Pi} (wf : Wf nm B P) (fit : Fit B P) {L : List Str} (hL : ∀ x, x ∈ L ↔ ∃ b, (x, b) ∈ B ∧ b = outW P x) (nd : L.Nodup) (x : Str) :
    x ∈ leavesN P B.length L ↔ x ∈ nms B ∧ ¬ Opn B P x := by
  have ln : L.length ≤ B.length := by
    have := len_le_of_sub nd (m := nms B) fun x hx => by
      obtain ⟨b, hb, _⟩ := (hL x).mp hx
      exact List.mem_map.mpr ⟨_, hb, rfl⟩
    unfold nms at this
    rw [List.length_map] at this
    exact this
  constructor
  · intro hx
    have h0 := leavesN_sub P _ _ x hx
    obtain ⟨b, hb, _⟩ := (hL x).mp h0
    refine ⟨List.mem_map.mpr ⟨_, hb, rfl⟩, fun o => ?_⟩
    refine fix_closed (L := leavesN P B.length L) (fun y hy b hb lt => ?_) (leavesN_end P _ L ln) o hx
    obtain ⟨c, hc, e⟩ := (hL y).mp (leavesN_sub P _ _ y hy)
    have e1 := getB_of_mem wf.nb hb
    have e2 := getB_of_mem wf.nb hc
    rw [e1] at e2
    have : b = c := Option.some.inj e2
    omega
  · rintro ⟨hx, no⟩
    refine leavesN_keep P (fun y => y ∈ nms B ∧ ¬ Opn B P y) ?_ _ _ ?_ x ⟨hx, no⟩
    · rintro a c w ⟨ha, na⟩ m
      exact ⟨(wf.rp _ m).2.1, fun o => na (.step m o)⟩
    · rintro y ⟨hy, ny⟩
      obtain ⟨p, hp, e⟩ := List.mem_map.mp hy
      have e' : p.1 = y := e
      refine (hL y).mpr ⟨p.2, by rw [← e']; exact hp, ?_⟩
      have := (fit p hp).1
      rw [e'] at this
      by_cases lt : outW P y < p.2
      · exact absurd (.soak (by rw [← e']; exact hp) lt) ny
      · omega
end Nt
end
section
set_option maxHeartbeats 2000000
namespace Rl
open PySem PySem.Spec PyProof.Rows L2
/-! ### a comprehension of any kind: what is made stands at D, what a turn does with it is told by tb -/
def tGc (b0 : Addr → HO) (wi : TI) (g : TG) (tt : TT) (tb : Addr → L2.St → Hp → (Hp → Prop) → Prop) (vs : List Nat) : TE := fun σ H Q =>
  wi σ H fun J H1 => ∀ D, H1 D = none → ∃ W : Nat → Nat → Hp → Prop, (∃ m, W 0 m (upd H1 D (b0 D))) ∧ ∀ i m H, W i m H →
    (J.stop i H ∧ Q (.ref D) H) ∨ (J.go i H ∧ ∃ Nx : Hp → Prop, (∀ H', Nx H' → ∃ m', m' < m ∧ W (i + 1) m' H') ∧
      ∀ x H', J.yld i H x H' → g x (wipe σ vs) H' fun σ2 H2 => wipe σ2 vs = wipe σ vs ∧ tt σ2 H2 fun b H3 => if b = true then tb D σ2 H3 Nx else Nx H3)
/-- what a turn of the loop is to show -/
def TurnAt (P : Program) (w : World) (tg : Expr) (ifs : List Expr) (bd : Addr → Env → Around → (Shared → Prop) → (Value → Shared → Prop) → Shared → Prop)
    (A : Around) (R : Result → Shared → Prop) (it : Value) (D : Addr) (env : Env) (I : Nat → Shared → Prop) (n : Nat) (s : Shared) : Prop :=
  wpAny (model P w) A (pyNext it) (fun r s₁ => match r with
    | none => R (.ok .next) s₁
    | some v => wpAny (model P w) A (letOwnedTupleGo tg it v) (fun _ s₁' => wpAny (model P w) A (assign tg env v) (fun _ s₂ =>
        wpAny (model P w) A (forIn ifs true fun c r => if r = true then do let ok ← isTrue c env (eval c env); pure (ForInStep.yield ok) else pure (ForInStep.yield r))
          (fun ok s₃ => if ok = true then bd D env A (fun s' => ∃ m, m < n ∧ I m s') (notedBy (model P w) A env fun e s' => R (.error e) s') s₃ else ∃ m, m < n ∧ I m s₃)
          (notedBy (model P w) A env fun e s' => R (.error e) s') s₂) (notedBy (model P w) A env fun e s' => R (.error e) s') s₁') (notedBy (model P w) A env fun e s' => R (.error e) s') s₁)
    (notedBy (model P w) A env fun e s' => R (.error e) s') s
/-- a kind of comprehension: its expression, what it makes, its loop -/
structure Kind (P : Program) (w : World) (cx : Expr) (tg iter : Expr) (ifs : List Expr) (mk : Sem Value) (o0 : Obj) (bd : Addr → Env → Around → (Shared → Prop) → (Value → Shared → Prop) → Shared → Prop) : Prop where
  cl : clausesOf cx = [⟨tg, iter, ifs, 0⟩]
  new : ∀ {A : Around} {E : Value → Shared → Prop} {Q : Value → Shared → Prop} {s : Shared}, Q (.ref s.heap.objs.size) { s with heap := s.heap.push o0 } → wpAny (model P w) A mk Q E s
  weak : ∀ {D : Addr} {env : Env} {A : Around} {p p' : Shared → Prop} {e' : Value → Shared → Prop} {s : Shared}, (∀ s', p s' → p' s') → bd D env A p (fun _ _ => False) s → bd D env A p' e' s
  loop : ∀ {A : Around} {R : Result → Shared → Prop} {it : Value} {D : Addr} {env : Env} {s : Shared} (I : Nat → Shared → Prop), (∀ n s, I n s → TurnAt P w tg ifs bd A R it D env I n s) → ∀ n, I n s →
    codeAny (model P w) A (.compLoop cx 0 it (.ref D) env) R s
  start : ∀ {A : Around} {R : Result → Shared → Prop} {it acc : Value} {env : Env} {s : Shared}, codeAny (model P w) A (.compLoop cx 0 it acc env) R s →
    wpAny (model P w) A (pyIter it) (fun it' s' => codeAny (model P w) A (.compLoop cx 0 it' acc env) R s') (notedBy (model P w) A env fun x s' => R (.error x) s') s →
    codeAny (model P w) A (.compStart cx 0 it acc env) R s
section
variable {X : Cx}
theorem gc_core {pins : List (Addr × Obj)} {s : Shared} {σ : L2.St} {H : Hp} {Q : VK} {cx tg iter : Expr} {ifs : List Expr} {mk : Sem Value} {o0 : Obj} {bd : Addr → Env → Around → (Shared → Prop) → (Value → Shared → Prop) → Shared → Prop}
    {scope : Scope} {own : List (Str × Nat)} {pos' : Pos} {wi : TI} {g : TG} {tt : TT} {b0 : Addr → HO} {tb : Addr → L2.St → Hp → (Hp → Prop) → Prop} {use : Option (Value → Sem Unit)} {Qf : Value → Shared → Prop}
    (KD : Kind X.prog X.w cx tg iter ifs mk o0 bd)
    (hb0 : ∀ {pins : List (Addr × Obj)} {σ : L2.St} {H : Hp} {s : Shared}, Inv X pins σ H s → ObjOk X.prog X.w (upd H s.heap.objs.size (b0 s.heap.objs.size)) (s.heap.push o0) s.heap.objs.size (b0 s.heap.objs.size))
    (hc : X.calm = true) (hN : X.N.Nodup) (I : Inv X pins σ H s) (hi : PI X tg iter wi) (ok : BlkOk X.N X.env.scope scope own)
    (hg : ∀ (s : Shared) (H : Hp) (C : Addr) (cl : List (Str × Addr)) (fp : List Addr), PG (X.blk s H scope (compEnvC scope cl C X.env) fp) tg g)
    (ht : ∀ (s : Shared) (H : Hp) (C : Addr) (cl : List (Str × Addr)) (fp : List Addr), PTs (X.blk s H scope (compEnvC scope cl C X.env) fp) ifs tt)
    (hb : ∀ (s : Shared) (H : Hp) (C : Addr) (cl : List (Str × Addr)) (fp : List Addr) (pins : List (Addr × Obj)) (σ : L2.St) (H' : Hp) (s' : Shared) (D : Addr) (Nx : Hp → Prop),
      Inv (X.blk s H scope (compEnvC scope cl C X.env) fp) pins σ H' s' → tb D σ H' Nx → bd D (compEnvC scope cl C X.env) X.A (fun s'' => ∃ H'', Inv (X.blk s H scope (compEnvC scope cl C X.env) fp) pins σ H'' s'' ∧ Nx H'') (fun _ _ => False) s')
    (hs : ∀ x, foldedSetIterable iter X.env x = pure x)
    (h : tGc b0 wi g tt tb (own.map (·.2)) σ H Q)
    (hRR : ∀ D C s' m H', Inv X pins σ H' s' → Q (.ref D) H' → s'.heap.Ns C m → FpOk X pins H' C → compPost (model X.prog X.w) X.A X.xe use Qf (.ref D) C (.ok .next) s') :
    wpAny (model X.prog X.w) X.A (comprehension cx scope X.env pos' mk false (eval iter X.env) use) Qf X.xe s := by
  have free : ∀ y ∈ scope.names, y.2 = .free → ∃ c, X.env.cells.lookup y.1 = some c := by
    intro y hy e
    exact (ok.free y hy e).elim (fun k => I.ok.has _ (.inl k)) (fun k => I.ok.has _ (.inr k))
  refine wpAny_comprehension_free (use := use) KD.cl hs (closure_ok free) ok.kind
    (by intro y hy e; rw [ok.uniq y hy, e]) (thn (hi.run pins s σ H _ I h) (fun xv s1 hx => thn hx (fun itv s2 h2 => ?_)))
  obtain ⟨it, fp, tn, J, H2, rfl, I2, T, st2, f2, q⟩ := h2
  refine KD.new (newEnv_comp ?_)
  obtain ⟨D, hD⟩ : ∃ D, s2.heap.objs.size = D := ⟨_, rfl⟩
  have nD : H2 D = none := I2.hok.fresh (Nat.le_of_eq hD)
  obtain ⟨W, ⟨m0, w0⟩, turn⟩ := q D nD
  rw [hD]
  obtain ⟨s3, hs3⟩ : ∃ s3 : Shared, s3 = { s2 with heap := s2.heap.push o0 } := ⟨_, rfl⟩
  rw [← hs3]
  have h3 : s3.heap = s2.heap.push o0 := by rw [hs3]
  obtain ⟨H3, hH3⟩ : ∃ H3, H3 = upd H2 D (b0 D) := ⟨_, rfl⟩
  rw [← hH3] at w0
  have I3 : Inv X pins σ H3 s3 := by
    have z := I2.laid (t' := s2.toks) (h' := s2.heap.push o0) (fun b o e => Heap.get?_push_of_some _ e) (Nat.le_refl _) (hb0 I2)
    rw [hs3, hH3, ← hD]
    exact z
  have old : ∀ b ∈ fp, b < s2.heap.objs.size := by
    intro b hb
    obtain ⟨o, e, _⟩ := T.obj _ _ st2 b hb
    exact Heap.lt_size e
  have f3 : ∀ b ∈ fp, FpOk X pins H3 b ∧ b < s3.heap.objs.size := by
    intro b hb
    have lt := old b hb
    refine ⟨⟨?_, (f2 b hb).2⟩, ?_⟩
    · rw [hH3, upd_ne (show b ≠ D from by rw [← hD]; exact Nat.ne_of_lt lt)]
      exact (f2 b hb).1
    · rw [h3, Heap.size_push]; exact Nat.lt_succ_of_lt lt
  have st3 : tn 0 s3.heap := T.keep _ _ _ st2 (by intro b _ o e; rw [h3]; exact Heap.get?_push_of_some _ e)
  have I4 := block_start I3 ok hN f3
  have pg := hg s3 H3 s3.heap.objs.size (cellsFrom (s3.heap.objs.size + 1) scope.names (cloFrom X.env.cells scope.names [])) fp
  have pt := ht s3 H3 s3.heap.objs.size (cellsFrom (s3.heap.objs.size + 1) scope.names (cloFrom X.env.cells scope.names [])) fp
  have pb := hb s3 H3 s3.heap.objs.size (cellsFrom (s3.heap.objs.size + 1) scope.names (cloFrom X.env.cells scope.names [])) fp
  show codeAny _ _ (.compStart cx 0 (.ref it) (.ref D) (compEnvC scope (cellsFrom (s3.heap.objs.size + 1) scope.names (cloFrom X.env.cells scope.names [])) s3.heap.objs.size X.env))
    (compPost (model X.prog X.w) X.A X.xe use Qf (.ref D) s3.heap.objs.size) { s3 with heap := pushCells (s3.heap.push { cls := .type "dict", data := .dict #[] }) scope.names }
  have nfp : ∀ b ∈ fp, H3 b = none := fun b hb => (f3 b hb).1.1
  obtain ⟨ce, hce⟩ : ∃ ce, ce = compEnvC scope (cellsFrom (s3.heap.objs.size + 1) scope.names (cloFrom X.env.cells scope.names [])) s3.heap.objs.size X.env := ⟨_, rfl⟩
  rw [← hce] at I4 pg pt pb ⊢
  have cL : ce.locals = s3.heap.objs.size := by rw [hce]; rfl
  obtain ⟨s4, hs4⟩ : ∃ s4 : Shared, s4 = { s3 with heap := pushCells (s3.heap.push { cls := .type "dict", data := .dict #[] }) scope.names } := ⟨_, rfl⟩
  rw [← hs4] at I4 ⊢
  have st4 : tn 0 s4.heap := T.keep _ _ _ st3 (by intro b _ o e; rw [hs4]; exact pushCells_keeps _ _ _ _ (Heap.get?_push_of_some _ e))
  have stat : ∀ {σ' : L2.St} {H' : Hp} {s' : Shared}, Inv (X.blk s3 H3 scope ce fp) [] σ' H' s' → (∀ b ∈ fp, H' b = none) → ∀ b ∈ fp, FpOk (X.blk s3 H3 scope ce fp) [] H' b := by
    intro σ' H' s' J' hn b hb
    refine ⟨hn b hb, (J'.ok.exf b hb).1, J'.ok.exfs b hb, .inl hb, fun x c e => (J'.ok.exf b hb).2 x c e, fun p hp => ?_⟩
    exact (List.not_mem_nil (show p ∈ ([] : List (Addr × Obj)) from hp)).elim
  have loop : codeAny (model X.prog X.w) X.A (.compLoop cx 0 (.ref it) (.ref D) ce) (compPost (model X.prog X.w) X.A X.xe use Qf (.ref D) s3.heap.objs.size) s4 := by
    refine KD.loop (fun n s' => ∃ i H', Inv (X.blk s3 H3 scope ce fp) [] (wipe σ (own.map (·.2))) H' s' ∧ tn i s'.heap ∧ (∀ b ∈ fp, H' b = none) ∧ W i n H') ?_ m0 ⟨0, H3, I4, st4, nfp, w0⟩
    rintro n s5 ⟨i, H5, I5, st5, n5, w5⟩
    rcases turn i n H5 w5 with ⟨stop, qq⟩ | ⟨go, Nx, hNx, step⟩
    · refine thnF (T.done (X.blk s3 H3 scope ce fp) rfl rfl rfl hc i [] s5 _ H5 (fun _ _ => False) I5 (stat I5 n5) st5 stop) ?_
      rintro r s6 ⟨rfl, I6⟩
      have I7 : Inv X pins σ H5 s6 := I3.call' (ch := fp) I6.os I6.base I6.hok I6.bare (by
        intro b hb
        have z := (f3 b hb).1
        exact ⟨z.2.2.2.1, z.2.1, z.2.2.2.2.1, z.2.2.2.2.2⟩)
      have nC : H5 s3.heap.objs.size = none := by
        rw [← cL]; exact I6.free
      obtain ⟨m, hn, _⟩ := I6.loc
      have hn' : s6.heap.Ns s3.heap.objs.size m := by
        rw [← cL]; exact hn
      exact hRR D s3.heap.objs.size s6 m H5 I7 qq hn' (I3.fpOk (Nat.le_refl _) nC)
    · refine thnF (T.item (X.blk s3 H3 scope ce fp) rfl rfl rfl hc i [] s5 _ H5 (fun _ _ => False) I5 (stat I5 n5) st5 go) ?_
      rintro r s6 ⟨u, rfl, h6⟩
      refine thnF h6 ?_
      rintro _ s7 ⟨x, H7, I7, r7, y7, st7, n7⟩
      have I7' := I7.pinned (stat I7 n7) (T.obj _ _ st7)
      refine thnF (pg.run _ s7 _ H7 x u _ I7' r7 (step x H7 y7)) ?_
      rintro _ s8 ⟨σ8, H8, I8, hw8, q8⟩
      refine thnF (pt.run _ s8 σ8 H8 _ I8 q8) ?_
      rintro b s9 ⟨H9, I9, q9⟩
      have fin : ∀ {s' : Shared} {H' : Hp}, Inv (X.blk s3 H3 scope ce fp) ([] ++ pinsAt fp s7.heap) σ8 H' s' → Nx H' →
          ∃ m, m < n ∧ ∃ i H', Inv (X.blk s3 H3 scope ce fp) [] (wipe σ (own.map (·.2))) H' s' ∧ tn i s'.heap ∧ (∀ b ∈ fp, H' b = none) ∧ W i m H' := by
        intro s' H' I' nx
        obtain ⟨m', hm, w'⟩ := hNx H' nx
        have kept : ∀ b ∈ fp, ∀ o, s7.heap.get? b = some o → s'.heap.get? b = some o ∧ H' b = none := by
          intro b hb o e
          have z := I'.pin (b, o) (List.mem_append_right _ (List.mem_append_right _ (mem_pinsAt hb e)))
          exact ⟨z.1, z.2.1⟩
        refine ⟨m', hm, i + 1, H', (I'.unpinned (pins := [])).weak (by rw [← hw8, wipe_length]) (fun j v e => ?_), T.keep _ _ _ st7 (fun b hb o e => (kept b hb o e).1), fun b hb => ?_, w'⟩
        · rw [← hw8] at e; exact (wipe_some e).1
        · obtain ⟨o, e, _⟩ := T.obj _ _ st7 b hb
          exact (kept b hb o e).2
      cases b with
      | false =>
        rw [if_neg Bool.false_ne_true] at q9
        exact iteF (fin I9 q9)
      | true =>
        rw [if_pos rfl] at q9
        refine iteT (KD.weak ?_ (pb _ σ8 H9 s9 D Nx I9 q9))
        rintro s' ⟨H', I', nx⟩
        exact fin I' nx
  exact KD.start loop (T.self X.A 0 _ _ _ st4 loop)
end
end Rl
end
section
set_option maxHeartbeats 2000000
namespace Rl
open PySem PySem.Spec PyProof.Rows L2
/-! ### over a walk -/
theorem gc_it {J : It} {n : Nat} {G : Hp → Prop} {Y : Nat → Hp → V → Hp → Prop} (w : Walk J n G Y) {b0 : Addr → HO} {g : TG} {tt : TT} {tb : Addr → L2.St → Hp → (Hp → Prop) → Prop} {vs : List Nat} {σ : L2.St} {H1 : Hp} {D : Addr} {Qd : Hp → Prop} (Pv : Nat → Hp → Prop)
    (h0 : Pv 0 (upd H1 D (b0 D))) (hG : ∀ i H, i ≤ n → Pv i H → G H)
    (hs : ∀ i x H H', i < n → Pv i H → Y i H x H' → g x (wipe σ vs) H' fun σ2 H2 => wipe σ2 vs = wipe σ vs ∧ tt σ2 H2 fun b H3 => if b = true then tb D σ2 H3 (Pv (i + 1)) else Pv (i + 1) H3)
    (hd : ∀ H, Pv n H → Qd H) :
    ∃ W : Nat → Nat → Hp → Prop, (∃ m, W 0 m (upd H1 D (b0 D))) ∧ ∀ i m H, W i m H →
      (J.stop i H ∧ Qd H) ∨ (J.go i H ∧ ∃ Nx : Hp → Prop, (∀ H', Nx H' → ∃ m', m' < m ∧ W (i + 1) m' H') ∧
        ∀ x H', J.yld i H x H' → g x (wipe σ vs) H' fun σ2 H2 => wipe σ2 vs = wipe σ vs ∧ tt σ2 H2 fun b H3 => if b = true then tb D σ2 H3 Nx else Nx H3) := by
  refine ⟨fun i m H => m + i = n ∧ Pv i H, ⟨n, rfl, h0⟩, ?_⟩
  rintro i m H ⟨e, p⟩
  have q := hG i H (by omega) p
  rcases Nat.lt_or_ge i n with lt | ge
  · refine .inr ⟨w.goes i H lt q, Pv (i + 1), fun H' p' => ⟨m - 1, by omega, by omega, p'⟩, fun x H' y => hs i x H H' lt p (w.yields i H x H' lt q y)⟩
  · have ei : i = n := by omega
    subst ei
    exact .inl ⟨w.stops H q, hd H p⟩
/-! ### {k: v for ..} -/
def bdD (P : Program) (w : World) (kx vx : Expr) (D : Addr) (env : Env) (A : Around) (p : Shared → Prop) (e : Value → Shared → Prop) (s : Shared) : Prop :=
  wpAny (model P w) A (eval kx env) (fun kv s4 => wpAny (model P w) A (eval vx env) (fun vv s5 => wpAny (model P w) A (dictSet D kv vv) (fun _ s6 => p s6) e s5) e s4) e s
theorem kindD (P : Program) (w : World) (kx vx tg iter : Expr) (ifs : List Expr) (scope : Scope) (pos : Pos) :
    Kind P w (.DictComp kx vx [⟨tg, iter, ifs, 0⟩] scope pos) tg iter ifs newDict { cls := .type "dict", data := .dict #[] } (bdD P w kx vx) where
  cl := rfl
  new := fun h => wpAny_newObj_type h
  weak := fun hp h => wpAny_mono h (fun _ _ h1 => wpAny_mono h1 (fun _ _ h2 => wpAny_mono h2 (fun _ _ h3 => hp _ h3) fun _ _ z => z.elim) fun _ _ z => z.elim) fun _ _ z => z.elim
  loop := fun I turn n h => compLoop_anyD I turn n h
  start := fun h0 h => codeAny_compStart_dict h0 h
section
variable {X : Cx}
/-- d[y] = v where the comprehension does it -/
theorem dset_ok {pins : List (Addr × Obj)} {σ : L2.St} {H H' : Hp} {s : Shared} {E : Value → Shared → Prop} {D : Addr} {y v : V} {u r : Value} {Q : Unit → Shared → Prop} (hu : X.A.units < cLine) (I : Inv X pins σ H s) (g : DPut H D y v H') (ry : RelV y u) (rv : RelV v r)
    (h : ∀ s', Inv X pins σ H' s' → Q () s') : wpAny (model X.prog X.w) X.A (dictSet D u r) Q E s := by
  rcases g with ⟨kvs, k, e, rfl, l, rfl⟩ | ⟨kvs, k, b, e, rfl, eb, l, rfl⟩
  · exact d_dictSet I e l ry rv h
  · cases (show u = Value.ref b from ry)
    obtain ⟨z, hd, xs, rel, dd⟩ := dt_of I.hok e
    have l1 : xs.length ≤ sizeLine := by rw [← Paired.length rel]; exact z
    have l2 : (putK kvs k v).length ≤ sizeLine := by have := length_putK kvs k v; omega
    refine wpAny_dictSet_heap (hsz := l1) (show (tupleKind (mixKind X.prog X.w)).room X.A from hu) (key_of I.hok eb) dd (fun h' dd' sb => h _ ?_)
    obtain ⟨q, es, ep, hq, h2, h3, h4, _, h5⟩ := dd'
    refine d_write I (by rw [e]; trivial) sb ⟨q, hq⟩ ⟨l2, hd, _, (rel.put k eb rv).keeps (fun c ys ec => ?_), q, es, ep, hq, h2, h3, h4, h5⟩
    rw [upd_ne (ne_of ec e (fun z => nomatch z))]; exact ec
def tbD (tk tv : TE) : Addr → L2.St → Hp → (Hp → Prop) → Prop := fun D σ H Nx => tk σ H fun y H4 => tv σ H4 fun z H5 => ∃ H6, DPut H5 D y z H6 ∧ Nx H6
theorem eval_dc (kx vx : Expr) (gens : List Comprehension) (scope : Scope) (pos : Pos) (env : Env) : eval (.DictComp kx vx gens scope pos) env =
    comprehension (.DictComp kx vx gens scope pos) scope env (firstIterPos gens pos) newDict (firstAsync gens) (firstIter gens env) := rfl
/-- {k: v for ..}, keys tuples (T := .dT []) or ints and texts (T := .dK []) -/
theorem pe_dcP {T : HO} {kx vx tg iter : Expr} {ifs : List Expr} {scope : Scope} {own : List (Str × Nat)} {pos : Pos} {wi : TI} {g : TG} {tt : TT} {tk tv : TE} {j : Nat} (hT : T = .dT [] ∨ T = .dK []) (hr : Room j X.A) (hc : X.calm = true) (hN : X.N.Nodup) (hi : PI X tg iter wi) (ok : BlkOk X.N X.env.scope scope own)
    (hg : ∀ (s : Shared) (H : Hp) (C : Addr) (cl : List (Str × Addr)) (fp : List Addr), PG (X.blk s H scope (compEnvC scope cl C X.env) fp) tg g)
    (ht : ∀ (s : Shared) (H : Hp) (C : Addr) (cl : List (Str × Addr)) (fp : List Addr), PTs (X.blk s H scope (compEnvC scope cl C X.env) fp) ifs tt)
    (hk : ∀ (s : Shared) (H : Hp) (C : Addr) (cl : List (Str × Addr)) (fp : List Addr), PE (X.blk s H scope (compEnvC scope cl C X.env) fp) kx tk)
    (he : ∀ (s : Shared) (H : Hp) (C : Addr) (cl : List (Str × Addr)) (fp : List Addr), PE (X.blk s H scope (compEnvC scope cl C X.env) fp) vx tv) (hs : ∀ x, foldedSetIterable iter X.env x = pure x := by intro _; rfl) :
    PE X (.DictComp kx vx [⟨tg, iter, ifs, 0⟩] scope pos) (tGc (fun _ => T) wi g tt (tbD tk tv) (own.map (·.2))) := by
  refine ⟨fun pins s σ H Q I h => ?_⟩
  rw [eval_dc]
  refine gc_core (kindD X.prog X.w kx vx tg iter ifs scope pos) (fun {_ _ _ s1} I1 => ?_) hc hN I hi ok hg ht ?_ hs h (fun D C s' m H' I' q hn f => ⟨m, hn, fun h'' sb => ?_⟩)
  · rcases hT with rfl | rfl
    · exact dt_empty s1.heap I1.big
    · exact dk_empty s1.heap I1.big
  · intro s1 H1 C cl fp pins' σ' H' s' D Nx I' q
    refine thnF ((hk s1 H1 C cl fp).run _ s' σ' H' _ I' q) ?_
    rintro kv s2 ⟨y, H2, I2, r2, q2⟩
    refine thnF ((he s1 H1 C cl fp).run _ s2 σ' H2 _ I2 q2) ?_
    rintro vv s3 ⟨z, H3, I3, r3, H4, put, nx⟩
    exact dset_ok (X := X.blk s1 H1 scope (compEnvC scope cl C X.env) fp) hr.units0 I3 put r2 r3 (fun s4 I4 => ⟨H4, I4, nx⟩)
  · obtain ⟨f0, f1, f2, f3, f4, f5⟩ := f
    exact ⟨.ref D, H', I'.turned (t' := s'.toks) (fun b o hb e => (sb.2 b hb).trans e) f0 f1 f3 f4 f5, rfl, q⟩
end
end Rl
end
section
set_option maxHeartbeats 2000000
namespace Rl
open PySem PySem.Spec PyProof.Rows L2 PySem.Froz
/-! ### sets of texts that can be walked -/
def SetTx (P : Program) (w : World) (h : Heap) (a : Addr) (l : List Str) : Prop :=
  ∃ D : SD, h.get? a = some (sObj "set" D) ∧ TxOk P w D l ∧ l.Nodup ∧ l.length < scanBound ∧ Ris D.2.2.place.toList ∧ (w.params.followText "set-order" = true ∨ D.2.2.led = true)
def SetX (P : Program) (w : World) (a : Addr) (l : List Str) : HO := .ext fun h => SetTx P w h a l
theorem SetTx.at {P : Program} {w : World} {h h' : Heap} {a : Addr} {l : List Str} (R : SetTx P w h a l) (k : ∀ o, h.get? a = some o → h'.get? a = some o) : SetTx P w h' a l := by
  obtain ⟨D, ho, r⟩ := R
  exact ⟨D, k _ ho, r⟩
theorem setX_new {P : Program} {w : World} {H : Hp} {h : Heap} {a : Addr} {l : List Str} (R : SetTx P w h a l) : ObjOk P w H h a (SetX P w a l) :=
  ⟨R, ⟨_, R.choose_spec.1⟩, fun h1 h2 p k => SetTx.at p k⟩
theorem tail_led (ep : Nat) (es1 : Array (Int × Value)) (t2 : SetTable) (b : Bool) : (tailTx ep es1 t2 b).2.2.led = t2.led := by
  unfold tailTx
  by_cases c : (!b && t2.tooFull) = true
  · rw [if_pos c]; exact relayAll_led _ _ _
  · rw [if_neg c]
theorem tail_ris (ep : Nat) (es1 : Array (Int × Value)) (t2 : SetTable) (b : Bool) (r : Ris t2.place.toList) : Ris (tailTx ep es1 t2 b).2.2.place.toList := by
  unfold tailTx
  by_cases c : (!b && t2.tooFull) = true
  · rw [if_pos c]; exact relayAll_ris _ _ _
  · rw [if_neg c]; exact r
theorem addTx_led (h : Int) (v : Value) (D : SD) : (addTx h v D).2.2.led = D.2.2.led := by
  have e1 : ∀ t2 : SetTable, (if t2.plain = true then { t2 with plain := false } else t2).led = t2.led := fun t2 => by split <;> rfl
  unfold addTx
  rw [tail_led, e1, layNew_led]
theorem addTx_ris (h : Int) (v : Value) (D : SD) (r : Ris D.2.2.place.toList) : Ris (addTx h v D).2.2.place.toList := by
  have e1 : ∀ t2 : SetTable, (if t2.plain = true then { t2 with plain := false } else t2).place = t2.place := fun t2 => by split <;> rfl
  unfold addTx
  refine tail_ris _ _ _ _ ?_
  rw [e1]
  exact layNew_ris _ _ h v r
section
variable {P : Program} {w : World} {A : Around} {E : Value → Shared → Prop} {s : Shared}
/-- it is there already -/
theorem has_add {a : Addr} {D : SD} {l : List Str} {k : Str} {u : Tok} {Q : Bool → Shared → Prop} (ho : s.heap.get? a = some (sObj "set" D)) (F : TxOk P w D l) (hk : k ∈ l) (hb : l.length < scanBound)
    (h : Q false s) : wpAny (model P w) A (setAddHashed a (.str k u) (hashStr w k)) Q E s := by
  obtain ⟨es, ep, t⟩ := D
  have e1 : es.size = l.length := F.sz
  have e2 : ElemsOf (strKind P w) es.toList := F.el
  have e3 : t.fits es.size = true := F.fit
  obtain ⟨x, hx, px⟩ := (F.mem k).mp hk
  unfold setAddHashed setAddHashedIn
  refine wpAny_holding (wpAny_bind (wpAny_setState_of ho rfl e3 ?_))
  dsimp only
  rw [byScan_of rfl (by omega) e2]
  simp only [↓reduceIte]
  unfold setAddByScan
  refine wpAny_bind (wpAny_bind (wpAny_rule (wpAny_bind (wpAny_setScan_of (knd := strKind P w) (k := k) (is_str k u) ho rfl e3 e2 ?_))))
  cases hf : List.findIdx? (fun e => (strKind P w).is k e.2) es.toList with
  | some j => exact wpAny_pure (wpAny_pure h)
  | none =>
    have c := List.findIdx?_eq_none_iff.mp hf x hx
    rw [px] at c
    cases c
/-- found.add(k) -/
theorem setTx_add {a : Addr} {l : List Str} {k : Str} {u : Tok} {Q : Value → Shared → Prop} (R : SetTx P w s.heap a l) (room : l.length + 1 < scanBound)
    (hQ : ∀ h', Heap.SameBut a s.heap h' → SetTx P w h' a (if k ∈ l then l else k :: l) → Q .none { s with heap := h', toks := s.toks + 1 }) :
    wpAny (model P w) A (call (.builtin "set.add") [.ref a, .str k u]) Q E s := by
  obtain ⟨D, ho, F, nd, hb, r, hl⟩ := R
  refine wpAny_call_entry PySem.F.slot_set_add ⟨_, ho, rfl⟩ PySem.F.entry_set_add ?_ (PySem.F.args_set_add_2 _ _)
  unfold Builtin.«set.add» Builtin.Frozenset.oneOther
  simp only [List.isEmpty_nil, bind_assoc]
  unfold Builtin.Frozenset.addrOf setAdd
  refine wpAny_bind (wpAny_pure ?_)
  try dsimp only
  refine wpAny_bind (wpAny_pure ?_)
  try dsimp only
  refine wpAny_bind (wpAny_holding (wpAny_bind ((strKind P w).pyHash (is_str k u) ?_)))
  by_cases hk : k ∈ l
  · refine has_add (s := { s with toks := s.toks + 1 }) ho F hk hb ?_
    show wpAny _ _ (ret Value.none) _ _ _
    refine wpAny_pure ⟨_, rfl, hQ s.heap (Heap.SameBut.refl a s.heap) ?_⟩
    rw [if_pos hk]
    exact ⟨D, ho, F, nd, hb, r, hl⟩
  · refine add_x (s := { s with toks := s.toks + 1 }) ho F hk room ?_
    show wpAny _ _ (ret Value.none) _ _ _
    refine wpAny_pure ⟨_, rfl, hQ _ (Heap.SameBut.update s.heap a _) ?_⟩
    rw [if_neg hk]
    exact ⟨_, get_upd _ ho rfl, add_ok u F, List.nodup_cons.mpr ⟨hk, nd⟩, room, addTx_ris _ _ _ r, by rw [addTx_led]; exact hl⟩
end
end Rl
end
section
set_option maxHeartbeats 2000000
namespace Rl
open PySem PySem.Spec PyProof.Rows L2 PySem.Froz
/-! ### {text for ..} -/
def bdS (P : Program) (w : World) (elt : Expr) (D : Addr) (env : Env) (A : Around) (p : Shared → Prop) (e : Value → Shared → Prop) (s : Shared) : Prop :=
  wpAny (model P w) A (eval elt env) (fun x s4 => wpAny (model P w) A (call (.builtin "set.add") [.ref D, x]) (fun _ s5 => p s5) e s4) e s
def set0 (w : World) : Obj := { cls := .type "set", dict := none, data := .set #[] 0 (.fresh 0 0 (!w.params.followText "set-order")) }
theorem kindS (P : Program) (w : World) (elt tg iter : Expr) (ifs : List Expr) (scope : Scope) (pos : Pos) :
    Kind P w (.SetComp elt [⟨tg, iter, ifs, 0⟩] scope pos) tg iter ifs (newSet (.type "set")) (set0 w) (bdS P w elt) where
  cl := rfl
  new := fun h => PpSet.newSet_ok h
  weak := fun hp h => wpAny_mono h (fun _ _ h1 => wpAny_mono h1 (fun _ _ h2 => hp _ h2) fun _ _ z => z.elim) fun _ _ z => z.elim
  loop := fun I turn n h => PpSet.compLoopS_any I turn n h
  start := fun h0 h => PpSet.codeAny_compStart_set h0 h
theorem setTx_fresh (P : Program) (w : World) (h : Heap) : SetTx P w (h.push (set0 w)) h.objs.size [] := by
  refine ⟨(#[], 0, .fresh 0 0 (!w.params.followText "set-order")), Heap.get?_push_size _ rfl, TxOk.nil (by rfl), List.nodup_nil, by decide, List.Pairwise.nil, ?_⟩
  show _ ∨ (!w.params.followText "set-order") = true
  cases w.params.followText "set-order"
  · exact .inr rfl
  · exact .inl rfl
section
variable {X : Cx}
def tbS (P : Program) (w : World) (te : TE) : Addr → L2.St → Hp → (Hp → Prop) → Prop := fun D σ H Nx => te σ H fun y H4 => ∃ (k : Str) (l : List Str),
  y = .str k ∧ H4 D = some (SetX P w D l) ∧ l.length + 1 < scanBound ∧ Nx (upd H4 D (SetX P w D (if k ∈ l then l else k :: l)))
theorem setX_add {pins : List (Addr × Obj)} {σ : L2.St} {H : Hp} {s : Shared} {E : Value → Shared → Prop} {D : Addr} {l : List Str} {k : Str} {u : Value} {Q : Value → Shared → Prop} (I : Inv X pins σ H s) (hD : H D = some (SetX X.prog X.w D l)) (room : l.length + 1 < scanBound) (ru : RelV (.str k) u)
    (h : ∀ s', Inv X pins σ (upd H D (SetX X.prog X.w D (if k ∈ l then l else k :: l))) s' → Q .none s') : wpAny (model X.prog X.w) X.A (call (.builtin "set.add") [.ref D, u]) Q E s := by
  obtain ⟨t, rfl⟩ := (show ∃ t, u = Value.str k t from ru)
  refine setTx_add (show SetTx X.prog X.w s.heap D l from (I.hok D _ hD).1) room (fun h' sb new => h _ ?_)
  exact I.write (e := D) (t' := s.toks + 1) (by rw [hD]; trivial) (.inl rfl) (fun b u hb hu => (sb.2 b hb).trans hu) ⟨_, new.choose_spec.1⟩ (setX_new new)
theorem pe_scX {elt tg iter : Expr} {ifs : List Expr} {scope : Scope} {own : List (Str × Nat)} {pos : Pos} {wi : TI} {g : TG} {tt : TT} {te : TE} (hc : X.calm = true) (hN : X.N.Nodup) (hi : PI X tg iter wi) (ok : BlkOk X.N X.env.scope scope own)
    (hg : ∀ (s : Shared) (H : Hp) (C : Addr) (cl : List (Str × Addr)) (fp : List Addr), PG (X.blk s H scope (compEnvC scope cl C X.env) fp) tg g)
    (ht : ∀ (s : Shared) (H : Hp) (C : Addr) (cl : List (Str × Addr)) (fp : List Addr), PTs (X.blk s H scope (compEnvC scope cl C X.env) fp) ifs tt)
    (he : ∀ (s : Shared) (H : Hp) (C : Addr) (cl : List (Str × Addr)) (fp : List Addr), PE (X.blk s H scope (compEnvC scope cl C X.env) fp) elt te) (hs : ∀ x, foldedSetIterable iter X.env x = pure x := by intro _; rfl) :
    PE X (.SetComp elt [⟨tg, iter, ifs, 0⟩] scope pos) (tGc (fun D => SetX X.prog X.w D []) wi g tt (tbS X.prog X.w te) (own.map (·.2))) := by
  refine ⟨fun pins s σ H Q I h => ?_⟩
  rw [PpSet.eval_SetComp]
  refine gc_core (kindS X.prog X.w elt tg iter ifs scope pos) (fun {_ _ _ s1} I1 => setX_new (setTx_fresh _ _ s1.heap)) hc hN I hi ok hg ht ?_ hs h (fun D C s' m H' I' q hn f => ⟨m, hn, fun h'' sb => ?_⟩)
  · intro s1 H1 C cl fp pins' σ' H' s' D Nx I' q
    refine thnF ((he s1 H1 C cl fp).run _ s' σ' H' _ I' q) ?_
    rintro x s2 ⟨y, H2, I2, r2, k, l, rfl, hD, room, nx⟩
    exact setX_add (X := X.blk s1 H1 scope (compEnvC scope cl C X.env) fp) I2 hD room r2 (fun s4 I4 => ⟨_, I4, nx⟩)
  · obtain ⟨f0, f1, f2, f3, f4, f5⟩ := f
    exact ⟨.ref D, H', I'.turned (t' := s'.toks) (fun b o hb e => (sb.2 b hb).trans e) f0 f1 f3 f4 f5, rfl, q⟩
end
/-! ### sorted of it -/
theorem perm_of_nodup : ∀ {l m : List Str}, l.Nodup → (∀ x ∈ l, x ∈ m) → m.length ≤ l.length → m.Perm l
  | [], m, _, _, h => by
    have : m = [] := List.length_eq_zero_iff.mp (Nat.le_zero.mp h)
    rw [this]
  | x :: r, m, nd, hs, hl => by
    obtain ⟨n1, n2⟩ := List.nodup_cons.mp nd
    have hx := hs x List.mem_cons_self
    have pm := List.perm_cons_erase hx
    have ln : m.length = (m.erase x).length + 1 := by rw [pm.length_eq, List.length_cons]
    refine pm.trans (List.Perm.cons x (perm_of_nodup n2 (fun y hy => ?_) (by rw [List.length_cons] at hl; omega)))
    have hy' := hs y (List.mem_cons_of_mem _ hy)
    have ne : y ≠ x := fun e => n1 (e ▸ hy)
    rcases List.mem_cons.mp (pm.mem_iff.mp hy') with e | e
    · exact absurd e ne
    · exact e
def txOf : Value → Str
  | .str k _ => k
  | _ => Str.empty
theorem strs_of : ∀ {l : List Value}, (∀ v ∈ l, ∃ k t, v = Value.str k t) → StrsAre l (l.map txOf)
  | [], _ => .nil
  | v :: l, h => by
    obtain ⟨k, t, rfl⟩ := h v List.mem_cons_self
    exact .cons k t (strs_of fun u hu => h u (List.mem_cons_of_mem _ hu))
section
variable {X : Cx}
def rSortX (P : Program) (w : World) : List V → Hp → VK → Prop := fun vs H Q => ∃ (a : Addr) (l : List Str), vs = [.ref a] ∧ H a = some (SetX P w a l) ∧ l.length < 64 ∧
  ∀ (ys : List Str) (p : Addr), ys.Perm l → sortedS ys = true → H p = none → Q (.ref p) (upd H p (.lst (ys.map V.str)))
theorem call_sortX (hc : X.calm = true) : CallR X (.builtin "sorted") (rSortX X.prog X.w) := by
  intro pins s σ H xs us Q I r q
  obtain ⟨a, l, rfl, hA, h64, q⟩ := q
  obtain ⟨u, rfl, ru⟩ := vals1 r
  cases (show u = Value.ref a from ru)
  obtain ⟨⟨es, ep, t⟩, ho, F, nd, hb, hr, hl⟩ := (show SetTx X.prog X.w s.heap a l from (I.hok a _ hA).1)
  have es1 : es.size = l.length := F.sz
  refine Calls.call_function_entry PyProof.Rows.kind_sorted PyProof.Rows.plain_sorted PyProof.Rows.entry_sorted (PyProof.Rows.args_sorted1 _) ?_
  unfold Builtin.«sorted»
  refine wpAny_bind (m := checkCount "sorted" 1 1 _) (wpAny_pure ?_)
  refine wpAny_bind (collect_set (A := X.A.in1) (I.ok.hd hc) ⟨_, ho, rfl, rfl⟩ F.fit (by rw [es1]; exact hb) hr hl (fun s1 vs k1 hz g1 o1 pm => ?_))
  have el : ∀ e ∈ es.toList, ∃ k t, e.2 = Value.str k t := by
    intro e he
    obtain ⟨⟨k, hk, _⟩, _⟩ := F.el e he
    obtain ⟨t, ht⟩ := Value.isStrOf_shape (x := k) (v := e.2) hk
    exact ⟨k, t, ht⟩
  have hS : StrsAre vs (vs.map txOf) := strs_of fun v hv => by
    obtain ⟨e, he, rfl⟩ := List.mem_map.mp (pm.mem_iff.mp hv)
    exact el e he
  have pk : (vs.map txOf).Perm l := by
    refine perm_of_nodup nd (fun x hx => ?_) ?_
    · obtain ⟨e, he, hk⟩ := (F.mem x).mp hx
      obtain ⟨t, ht⟩ := Value.isStrOf_shape (x := x) (v := e.2) hk
      refine List.mem_map.mpr ⟨e.2, pm.mem_iff.mpr (List.mem_map.mpr ⟨e, he, rfl⟩), ?_⟩
      rw [ht]; rfl
    · rw [List.length_map, pm.length_eq, List.length_map, Array.length_toList, es1]
      exact Nat.le_refl _
  have vl : vs.length < 64 := by
    have := pk.length_eq
    rw [List.length_map] at this
    omega
  have I1 : Inv X pins σ H s1 := I.call' (ch := []) o1 (Un.kept k1) (I.hok.kept k1) (by rw [g1]; exact I.bare) (fun _ z => nomatch z)
  refine wpAny_bind (wpAny_newList ?_ (Nat.le_of_lt (Nat.lt_trans vl (by decide))))
  have hoL : (s1.heap.push (seqObj "list" vs.toArray 0)).get? s1.heap.objs.size = some (seqObj "list" vs.toArray 0) := Heap.get?_push_size _ rfl
  show wpAny _ _ _ _ _ { s1 with heap := s1.heap.push (seqObj "list" vs.toArray 0) }
  refine wpAny_bind (wpAny_holding (wpAny_call_entry PyProof.Rows.slot_list_sort ⟨_, hoL, rfl⟩ PyProof.Rows.entry_list_sort
    (list_sort_treeK strKind_oneLt (s := { s1 with heap := s1.heap.push (seqObj "list" vs.toArray 0) }) hoL hS.keysOf (fun v₁ v₂ rest e => keyKind_strs (by rw [← e]; exact hS)) vl (fun st' hp hs => ⟨_, rfl, ?_⟩))
    (PyProof.Rows.args_list_sort _)))
  obtain ⟨ys, y1, y2, y3⟩ := sorted_out_str hS hp hs
  obtain ⟨c, hcc⟩ := PyProof.Rows.sortedHeap_at (vs := vs) (out := (arrOf st').map (·.2)) hoL
  have yl : (ys.map V.str).length ≤ sizeLine := by
    rw [List.length_map, y2.length_eq, List.length_map]
    exact Nat.le_of_lt (Nat.lt_trans vl (by decide))
  refine wpAny_pure ⟨_, rfl, .ref s1.heap.objs.size, upd H s1.heap.objs.size (.lst (ys.map V.str)), I1.laid (t' := s1.toks) (fun b o e => ?_) (Nat.le_refl _)
    (show ObjOk X.prog X.w _ _ _ (.lst (ys.map V.str)) from ⟨yl, ((arrOf st').map (·.2)).toList, c, vals_of_strs y1, by rw [Array.toArray_toList]; exact hcc⟩), rfl, q ys _ (y2.trans pk) y3 (I1.hok.fresh (Nat.le_refl _))⟩
  have lt : b < s1.heap.objs.size := Heap.lt_size e
  rw [PyProof.Rows.sortedHeap_old (Nat.ne_of_lt lt) (by rw [size_push']; exact Nat.lt_succ_of_lt lt)]
  exact Heap.get?_push_of_some _ e
end
end Rl
end
section
set_option maxHeartbeats 2000000
namespace Rl
open PySem PySem.Spec PyProof.Rows L2
theorem perm_map_inv {α β : Type} {f : α → β} : ∀ {m : List α} {l : List β}, l.Perm (m.map f) → ∃ m' : List α, m'.Perm m ∧ l = m'.map f
  | [], l, h => ⟨[], .nil, List.perm_nil.mp h⟩
  | x :: r, l, h => by
    have hx : f x ∈ l := h.mem_iff.mpr (by rw [List.map_cons]; exact List.mem_cons_self)
    obtain ⟨l1, l2, rfl⟩ := List.append_of_mem hx
    have h2 : (l1 ++ l2).Perm (r.map f) := (List.perm_middle.symm.trans h).cons_inv
    obtain ⟨m', pm, e⟩ := perm_map_inv h2
    obtain ⟨a, b, rfl, rfl, rfl⟩ := List.append_eq_map_iff.mp e
    exact ⟨a ++ x :: b, List.perm_middle.trans (pm.cons x), by rw [List.map_append, List.map_cons]⟩
/-- a pair of texts as a key of a dict -/
def pk (p : Str × Str) : List Key := [Sum.inr p.1, Sum.inr p.2]
def kx (p : Str × Str) : List (Int ⊕ List Nat) := [Sum.inr p.1.cps.toList, Sum.inr p.2.cps.toList]
/-- as Python sorts them -/
def ltP (p q : Str × Str) : Bool := lexLt itemOrd (kx p) (kx q)
section
variable {prog : Program} {w : World} {d : Addr} {es : Array DictEntry} {ep : Nat}
theorem rawSrc (lo : (d == sysModules) = false) : PySem.W.KdlSrc prog w "dict" d d es.size (fun i v => ∃ hi : i < es.size, v = es[i].key) (fun h => h.DictRaw d es ep) where
  type := fun _ hm => hm.typeIs
  there := fun _ hm => ⟨Heap.lt_size hm.choose_spec.1, Heap.lt_size hm.choose_spec.1⟩
  keep := fun _ _ hm hk => hm.at fun o e => hk d (.inl rfl) o e
  notList := by decide
  notTuple := by decide
  hint := fun _ _ _ _ hm hq => PySem.W.kdl_hint_dict hm.typeIs hq
  iter := fun A s hh hm => ⟨_, _, (fun _ _ hq => wpAny_pyIter_dict_raw lo hm hq), Walks.rawKeys hh _ d (Nat.ne_of_lt (Heap.lt_size hm.choose_spec.1)) es ep,
    ⟨⟨_, Heap.get?_push_size _ rfl, rfl, rfl⟩, hm.at fun o e => Heap.get?_push_of_some _ e⟩⟩
end
section
variable {X : Cx}
def rSortD : List V → Hp → VK → Prop := fun vs H Q => ∃ (a : Addr) (kvs : List (List Key × V)) (ps : List (Str × Str)), vs = [.ref a] ∧ Rd H a (.dT kvs) ∧ kvs.map (·.1) = ps.map pk ∧ ps.length ≤ 1000 ∧
  ∀ (qs : List (Addr × (Str × Str))) (p : Addr), (qs.map (·.2)).Perm ps → (qs.map (·.2)).Pairwise (fun x y => ltP y x = false) → (∀ q ∈ qs, H q.1 = some (.tup [.str q.2.1, .str q.2.2])) → H p = none →
    Q (.ref p) (upd H p (.lst (qs.map fun q => V.ref q.1)))
theorem pk_inj {p q : Str × Str} (h : pk p = pk q) : p = q := by
  obtain ⟨a, b⟩ := p
  obtain ⟨c, e⟩ := q
  simp only [pk, List.cons.injEq, Sum.inr.injEq, and_true] at h
  rw [h.1, h.2]
/-- the entries, told by their addresses and pairs -/
theorem kt_pairs {H : Hp} : ∀ {kvs : List (List Key × V)} {xs : List (List Key × Addr × Value)} {ps : List (Str × Str)}, Paired (fun (p : List Key × V) (q : List Key × Addr × Value) => p.1 = q.1 ∧ H q.2.1 = some (.tup (p.1.map kV)) ∧ RelV p.2 q.2.2) kvs xs →
    kvs.map (·.1) = ps.map pk → ∃ qs : List (Addr × (Str × Str)), qs.map (·.2) = ps ∧ xs.map (fun y => y.2.1) = qs.map (·.1) ∧ ∀ q ∈ qs, H q.1 = some (.tup [.str q.2.1, .str q.2.2])
  | [], _, ps, .nil, e => by
    have : ps = [] := List.map_eq_nil_iff.mp e.symm
    subst this
    exact ⟨[], rfl, rfl, fun q h => (List.not_mem_nil h).elim⟩
  | (k, v) :: r, _, [], .cons _ _, e => by simp at e
  | (k, v) :: r, _, p :: ps, .cons (b := y) h t, e => by
    rw [List.map_cons, List.map_cons] at e
    injection e with e1 e2
    obtain ⟨qs, h1, h2, h3⟩ := kt_pairs t e2
    have e1' : k = pk p := e1
    refine ⟨(y.2.1, p) :: qs, by rw [List.map_cons, h1], by rw [List.map_cons, List.map_cons, h2], fun q hq => ?_⟩
    rcases List.mem_cons.mp hq with rfl | hq
    · have := h.2.1
      rw [e1'] at this
      exact this
    · exact h3 q hq
theorem call_sortD (hc : X.calm = true) : CallR X (.builtin "sorted") rSortD := by
  intro pins s σ H xs us Q I r q
  obtain ⟨a, kvs, ps, rfl, hA, hks, hlen, q⟩ := q
  obtain ⟨u, rfl, ru⟩ := vals1 r
  cases (show u = Value.ref a from ru)
  obtain ⟨z, lo, ws, rel, dd⟩ := dt_rd I.hok hA
  obtain ⟨qs, hq1, hq2, hq3⟩ := kt_pairs rel hks
  obtain ⟨es, ep, raw, esz, hes⟩ := dd.raw
  have wl : ws.length = ps.length := by
    have := congrArg List.length hq2
    have h2 := congrArg List.length hq1
    simp only [List.length_map] at this h2
    omega
  have ql : qs.length = ps.length := by
    have h2 := congrArg List.length hq1
    simpa only [List.length_map] using h2
  refine Calls.call_function_entry PyProof.Rows.kind_sorted PyProof.Rows.plain_sorted PyProof.Rows.entry_sorted (PyProof.Rows.args_sorted1 _) ?_
  unfold Builtin.«sorted»
  refine wpAny_bind (m := checkCount "sorted" 1 1 _) (wpAny_pure ?_)
  refine wpAny_bind (PySem.W.kdu_collect (A := X.A.in1) (rawSrc lo) (I.ok.hd hc) raw (by rw [esz, wl]; exact Nat.le_of_lt (small1000 hlen)) (fun h' tk acc hk hacc => ?_))
  have vE : acc.toList = qs.map (fun q => Value.ref q.1) := by
    apply List.ext_getElem?
    intro i
    by_cases hi : i < acc.size
    · obtain ⟨hi2, e⟩ := hacc.2 i acc[i] (Array.getElem?_eq_getElem hi)
      obtain ⟨y, y1, y2, _⟩ := hes i hi2
      have e3 : (ws.map (fun y => y.2.1))[i]? = some y.2.1 := by rw [List.getElem?_map, y1]; rfl
      rw [hq2, List.getElem?_map] at e3
      rw [Array.getElem?_toList, Array.getElem?_eq_getElem hi, e, y2, List.getElem?_map]
      cases h5 : qs[i]? with
      | none => rw [h5] at e3; cases e3
      | some q5 =>
        rw [h5] at e3
        have : q5.1 = y.2.1 := Option.some.inj e3
        show some (Value.ref y.2.1) = some (Value.ref q5.1)
        rw [this]
    · rw [List.getElem?_eq_none (by rw [Array.length_toList]; omega), List.getElem?_eq_none (by rw [List.length_map]; have := hacc.1; omega)]
  rw [vE]
  have I1 : Inv X pins σ H { s with heap := h', toks := tk } := I.kept hk
  have vl : (qs.map (fun q => Value.ref q.1)).length ≤ sizeLine := by rw [List.length_map, ql]; exact Nat.le_of_lt (small1000 hlen)
  refine wpAny_bind (wpAny_newList ?_ vl)
  have hoL : (h'.push (seqObj "list" (qs.map (fun q => Value.ref q.1)).toArray 0)).get? h'.objs.size = some (seqObj "list" (qs.map (fun q => Value.ref q.1)).toArray 0) := Heap.get?_push_size _ rfl
  show wpAny _ _ _ _ _ { s with heap := h'.push (seqObj "list" (qs.map (fun q => Value.ref q.1)).toArray 0), toks := tk }
  have tup : ∀ q ∈ qs, ∃ o n t1 t2, (h'.push (seqObj "list" (qs.map (fun q => Value.ref q.1)).toArray 0)).get? q.1 = some o ∧ o.cls = .type "tuple" ∧ o.data = .seq #[.str q.2.1 t1, .str q.2.2 t2] n := by
    intro q hq
    obtain ⟨_, its, rv, o, ho, hcl, n, hd⟩ := (show ObjOk X.prog X.w H h' q.1 (.tup [.str q.2.1, .str q.2.2]) from I1.hok q.1 _ (hq3 q hq))
    cases rv with
    | cons r1 r2 =>
      cases r2 with
      | cons r2 r3 =>
        cases r3
        obtain ⟨t1, rfl⟩ := r1
        obtain ⟨t2, rfl⟩ := r2
        exact ⟨o, n, t1, t2, Heap.get?_push_of_some _ ho, hcl, hd⟩
  have key : ∀ q ∈ qs, G.tupKeyC (h'.push (seqObj "list" (qs.map (fun q => Value.ref q.1)).toArray 0)) (fun _ => true) (.ref q.1) = some (kx q.2) := by
    intro q hq
    obtain ⟨o, n, t1, t2, ho, hcl, hd⟩ := tup q hq
    unfold G.tupKeyC G.isTupObj tupKey
    simp only [ho, hcl, hd]
    rfl
  have tof : ∀ {l : List (Addr × (Str × Str))}, (∀ q ∈ l, q ∈ qs) → ∃ fs, TupsOf (h'.push (seqObj "list" (qs.map (fun q => Value.ref q.1)).toArray 0)) (fun _ => true) (l.map (fun q => Value.ref q.1)) fs := by
    intro l
    induction l with
    | nil => intro _; exact ⟨[], .nil⟩
    | cons q r ih =>
      intro h
      obtain ⟨fs, hf⟩ := ih fun x hx => h x (List.mem_cons_of_mem _ hx)
      obtain ⟨o, n, t1, t2, ho, hcl, hd⟩ := tup q (h q List.mem_cons_self)
      exact ⟨.str q.2.1 t1 :: fs, .cons ⟨q.1, o, _, n, rfl, ho, hcl, hd, rfl, fun z => Bool.noConfusion z, fun _ => ⟨_, _, rfl⟩⟩ hf⟩
  obtain ⟨fs, hfs⟩ := tof (l := qs) fun _ h => h
  have hkk : ∀ v ∈ qs.map (fun q => Value.ref q.1), ∃ l, G.tupKeyC (h'.push (seqObj "list" (qs.map (fun q => Value.ref q.1)).toArray 0)) (fun _ => true) v = some l := by
    intro v hv
    obtain ⟨q, hq, rfl⟩ := List.mem_map.mp hv
    exact ⟨_, key q hq⟩
  refine wpAny_bind (wpAny_holding (wpAny_call_entry PyProof.Rows.slot_list_sort ⟨_, hoL, rfl⟩ PyProof.Rows.entry_list_sort
    (G.list_sort_tups (s := { s with heap := h'.push (seqObj "list" (qs.map (fun q => Value.ref q.1)).toArray 0), toks := tk }) (shape := fun _ => true) (fs := fs) hoL hfs hkk vl (fun st' hp hs _ => ⟨_, rfl, ?_⟩)) (PyProof.Rows.args_list_sort _)))
  obtain ⟨c, hcc⟩ := PyProof.Rows.sortedHeap_at (vs := qs.map (fun q => Value.ref q.1)) (out := (arrOf st').map (·.2)) hoL
  have hpl : (arrOf st').toList.Perm (qs.map (fun q => (Value.ref q.1, Value.ref q.1))) := by
    have h1 := hp
    have h2 : (pairsOf (qs.map (fun q => Value.ref q.1))).toList = qs.map (fun q => (Value.ref q.1, Value.ref q.1)) := by
      rw [pairsOf_toList, List.zip_map', ]
    rw [← h2]
    exact h1.toList
  obtain ⟨L, pL, eL⟩ := perm_map_inv hpl
  have hout : ((arrOf st').map (·.2)).toList = L.map (fun q => Value.ref q.1) := by
    rw [Array.toList_map, eL, List.map_map]; rfl
  have kOf := G.tupKeys hkk
  have srt := keyLe_of_sorted (kOf.perm hp) (by rw [hp.size_eq]; exact hs)
  rw [eL] at srt
  have memL : ∀ q ∈ L, q ∈ qs := fun q hq => pL.mem_iff.mp hq
  have sL : (L.map (·.2)).Pairwise (fun x y => ltP y x = false) := by
    rw [List.pairwise_map] at srt ⊢
    refine srt.imp_of_mem ?_
    intro x y hx hy h
    obtain ⟨a1, b1, ka, kb, le⟩ := h
    have e1 : some a1 = some (kx x.2) := ka.symm.trans (key x (memL x hx))
    have e2 : some b1 = some (kx y.2) := kb.symm.trans (key y (memL y hy))
    rw [Option.some.inj e1, Option.some.inj e2] at le
    exact le
  have ll : (L.map (fun q => V.ref q.1)).length ≤ sizeLine := by rw [List.length_map, pL.length_eq, ql]; exact Nat.le_of_lt (small1000 hlen)
  have vals : ∀ l : List (Addr × (Str × Str)), Vals (l.map (fun q => V.ref q.1)) (l.map (fun q => Value.ref q.1)) := by
    intro l
    induction l with
    | nil => exact .nil
    | cons x r ih => exact .cons rfl ih
  refine wpAny_pure ⟨_, rfl, .ref h'.objs.size, upd H h'.objs.size (.lst (L.map fun q => V.ref q.1)), I1.laid (t' := tk) (fun b o e => ?_) (Nat.le_refl _)
    (show ObjOk X.prog X.w _ _ _ (.lst (L.map fun q => V.ref q.1)) from ⟨ll, L.map (fun q => Value.ref q.1), c, vals L, by rw [← hout, Array.toArray_toList]; exact hcc⟩), rfl,
    q L _ (by rw [← hq1]; exact pL.map _) sL (fun x hx => hq3 x (memL x hx)) (I1.hok.fresh (Nat.le_refl _))⟩
  have lt : b < h'.objs.size := Heap.lt_size e
  rw [PyProof.Rows.sortedHeap_old (Nat.ne_of_lt lt) (by rw [size_push']; exact Nat.lt_succ_of_lt lt)]
  exact Heap.get?_push_of_some _ e
end
end Rl
end
section
namespace Nl
open PySem PySem.Spec PyProof.Rows L2
/-! ### the text -/
def tp (i : Nat) : Stmt := PySem.Challenge.pw_backwater_k34_shares_hold.main.body.getD i (.Pass ⟨0, 0, 0, 0⟩)
abbrev s_wall : Stmt := tp 0
abbrev sWhole : Stmt := tp 18
abbrev s_figures : Stmt := tp 19
abbrev sWrong : Stmt := tp 21
abbrev sForAll : Stmt := tp 22
abbrev s_shown : Stmt := tp 23
abbrev mStand_init : Stmt := inClass (tp 24) 0
abbrev mStand_net : Stmt := inClass (tp 24) 1
abbrev mStand_poured : Stmt := inClass (tp 24) 2
abbrev mStand_count : Stmt := inClass (tp 24) 3
abbrev mStand_water : Stmt := inClass (tp 24) 4
abbrev mStand_pours : Stmt := inClass (tp 24) 5
abbrev mStand_counts : Stmt := inClass (tp 24) 6
abbrev mStand_waters : Stmt := inClass (tp 24) 7
abbrev mStand_eq : Stmt := inClass (tp 24) 8
abbrev mStand_repr : Stmt := inClass (tp 24) 9
abbrev sGcd : Stmt := tp 26
abbrev sFrac : Stmt := tp 27
abbrev sBalRow : Stmt := tp 28
abbrev sSolved : Stmt := tp 29
abbrev sStill : Stmt := tp 30
abbrev sLeast : Stmt := tp 31
abbrev sShares : Stmt := tp 32
abbrev sName : Stmt := tp 38
abbrev sMeas : Stmt := tp 39
abbrev sPondOf : Stmt := tp 40
abbrev sPairOf : Stmt := tp 41
abbrev sGoes : Stmt := tp 42
abbrev sComes : Stmt := tp 43
abbrev sPipesOut : Stmt := tp 44
abbrev sPipesIn : Stmt := tp 45
abbrev sSteps : Stmt := tp 46
abbrev sCkPonds : Stmt := tp 47
abbrev sCkPipes : Stmt := tp 48
abbrev sCkSides : Stmt := tp 49
abbrev sCkWays : Stmt := tp 50
abbrev mNet_init : Stmt := inClass (tp 51) 0
abbrev mNet_has_pond : Stmt := inClass (tp 51) 1
abbrev mNet_check_pond : Stmt := inClass (tp 51) 2
abbrev mNet_ponds : Stmt := inClass (tp 51) 3
abbrev mNet_brim : Stmt := inClass (tp 51) 4
abbrev mNet_width : Stmt := inClass (tp 51) 6
abbrev mNet_ins : Stmt := inClass (tp 51) 8
abbrev mNet_brims : Stmt := inClass (tp 51) 9
abbrev mNet_pipes : Stmt := inClass (tp 51) 10
abbrev mNet_eq : Stmt := inClass (tp 51) 11
abbrev mNet_len : Stmt := inClass (tp 51) 12
abbrev mNet_repr : Stmt := inClass (tp 51) 13
abbrev sPot : Stmt := tp 53
abbrev sDraw : Stmt := tp 54
abbrev sLName : Stmt := tp 55
abbrev sLOut : Stmt := tp 56
abbrev sLIn : Stmt := tp 57
abbrev sClosed : Stmt := tp 58
abbrev sNet : Stmt := tp 59
abbrev sLPoured : Stmt := tp 60
abbrev s_law_divisor : Stmt := tp 61
abbrev s_law_is_share : Stmt := tp 62
abbrev s_law_hold : Stmt := tp 63
abbrev sRefused : Stmt := tp 64
abbrev s_law_bad : Stmt := tp 65
abbrev sLaw : Stmt := tp 66
abbrev xBadName : Stmt := inClass (tp 6) 0
abbrev xTooMany : Stmt := inClass (tp 7) 0
abbrev xBadBrim : Stmt := inClass (tp 8) 0
abbrev xBadPipe : Stmt := inClass (tp 9) 0
abbrev xTooWide : Stmt := inClass (tp 10) 0
abbrev xClosed : Stmt := inClass (tp 11) 0
abbrev xNoPond : Stmt := inClass (tp 12) 0
abbrev xBadPoured : Stmt := inClass (tp 13) 0
abbrev xBadCount : Stmt := inClass (tp 14) 0
end Nl
end
section
set_option maxHeartbeats 4000000
namespace Rl
open PySem PySem.Spec PyProof.Rows PySem.Calls L2 NdefX
/-! ### own exceptions whose __init__ begins with super().__init__(..) -/
/-- what the written part says of the class at C and of its __init__ at f -/
structure SuX (P : Program) (K : PySem.W.Frag) (mg : Str → Option Value) (C f : Addr) (st : Stmt) (qual : Str) (fd : FuncData) (cda cc : Addr) : Prop where
  o : OexC K C
  iC : PySem.W.findIn K (.ref C) "__init__" = some (some (.ref f))
  tI : PySem.W.typeIn K (.ref f) = some (.type "function")
  su : PySem.W.ks_superIn K C C "__init__" = some (some (.builtin "ValueError.__init__"))
  ve : PySem.W.subIn K (.ref C) (.type "ValueError") = some true
  me : PySem.W.mroIn K C (.ref C) = some true
  opq : PySem.W.nsIn K cStatics "thirdparty.any" = some none
  fn : ∃ (oc : Value) (od : Option Addr) (kV doc pm : Value) (an : Option Addr) (ct : Value) (osl : Array (Option Value)),
    fd = PySem.W.fnX "__init__" qual (defArgs st) (defBody st) (defScope st) [("__class__", cc)] .none kV doc pm an (.ref cda) ct ∧ K.lookup f = some ⟨oc, od, .func fd, osl⟩
  cd : PySem.W.codeIn K (.ref cda) qual = true
  code : ∃ (c : Value) (d : Option Addr) (vs : Array Value) (sl : Array (Option Value)) (file : Str) (tf : Tok), K.lookup cda = some ⟨c, d, .fields vs, sl⟩ ∧ vs[2]? = some (.str file tf) ∧ ((P.main.file : Str) == file) = true
  cell : ∃ (c : Value) (d : Option Addr) (sl : Array (Option Value)), K.lookup cc = some ⟨c, d, .cell (some (.ref C)), sl⟩
  nosu : mg "super" = none
  top : (P.main.scope.names.lookup ("super" : Str)).isSome = false
/-- ValueError.__init__, bound to the exception at e, called -/
theorem call_veb {prog : Program} {w : World} {A : Around} {E : Value → Shared → Prop} {hp : Heap} {g : Array GenState} {d : Drawn} {tk : Nat} {os : OsState} {nm q : Str} {C N : Addr} {bs bm : List Value} {hd : Bool} {sn : List Str} {sub : List Value} {ab : Bool} {col : Option Bool}
    {dd : Option Addr} {k0 k1 k2 k3 k5 : Option Value} {u e t0 : Addr} {us : List Value} {Q : Value → Shared → Prop}
    (hC : hp.get? C = some (excClassObj nm q C N bs bm hd sn sub ab col dd k0 k1 k2 k3 k5 "ValueError.__new__")) (he : hp.get? e = some (PySem.HandSPX.excO C t0)) (hu : hp.get? u = some (PySem.W.kxs_mw "ValueError.__init__" e)) (hl : us.length ≤ sizeLine)
    (hq : ∀ h' t1, (∀ b o, b ≠ e → hp.get? b = some o → h'.get? b = some o) → h'.get? e = some (PySem.HandSPX.excO C t1) → Q .none ⟨h', g, d, tk, os⟩) : wpAny (model prog w) A (call (.ref u) us) Q E ⟨hp, g, d, tk, os⟩ := by
  refine wpAny_call (codeAny_of_tree ?_)
  show wpAny _ A.in1 (callAny (.ref u) ⟨us, []⟩) _ _ _
  simp only [callAny]
  refine wpAny_bind (wpAny_load hu ?_)
  have b1 : (Value.type "method-wrapper" == Value.type "method" || Value.type "method-wrapper" == Value.type "builtin_function_or_method" || Value.type "method-wrapper" == Value.type "method-wrapper") = true := by decide
  simp only [PySem.W.kxs_mw, b1, if_true]
  refine PySem.W.KFB.if_so (by decide) (wpAny_bind (PySem.W.check_bound_init F.excBase_ValueError.toExcCallFacts hC he rfl (wpAny_bind (wpAny_pure (wpAny_pure ?_)))))
  refine ⟨plainId_quiet F.excBase_ValueError.init.plain _, codeAny_builtin F.excBase_ValueError.initEntry ?_⟩
  exact PySem.W.exc_init_tree (cls := .ref C) (t0 := t0) (dv := none) (c2 := .none) (c3 := .none) (b4 := .bool false) he hl fun h' k e' _ => hq h' _ k e'
section
variable {CX : CXT} {P : Program} {w : World} {K : PySem.W.Frag} {mg : Str → Option Value} {base : Heap} {N ps : List Str} {k : Nat} {sp : Sp} {st : Stmt} {qual : Str} {fd : FuncData} {C f cda cc : Addr} {e : Expr} {es : List Expr} {rest : List Stmt} {p0 p1 p2 p3 p4 : Pos}
abbrev nfX (st : Stmt) (qual : Str) (cda cc : Addr) : NF := ⟨"__init__", qual, defArgs st, defBody st, defScope st, [("__class__", cc)], cda⟩
theorem exi_of (T : SuX P K mg C f st qual fd cda cc) (hst : defBody st = .Expr (.Call (.Attribute (.Call (.Name "super" p0) [] [] p1) "__init__" p2) (e :: es) [] p3) p4 :: rest)
    (hself : ((defArgs st).posonlyargs ++ (defArgs st).args).head?.map (·.arg) = some ("self" : Str)) (S : NScope N ps ["__class__"] (defScope st)) (hps : ps[0]? = some ("self" : Str)) (hks : (defScope st).names.lookup ("super" : Str) = some .globalImplicit)
    (len : ∀ vs H Q E, sp vs H Q E → vs.length = ps.length)
    (hbody : ∀ (A : Around) (outer : List Env) (s : Shared) (H : Hp) (vs : List V) (Q : VK) (E : XK), Room k (A.deeper (envF (nfX st qual cda cc) f s.heap.objs.size)) → sp vs H Q E →
      ∃ (a : Addr) (ws : List V) (ta : TA) (t : TS), vs = .ref a :: ws ∧ H a = some (exo a C none) ∧ PA (ncx CX P w K mg base N (nfX st qual cda cc) f A outer s H E) (e :: es) ta ∧ PSs (ncx CX P w K mg base N (nfX st qual cda cc) f A outer s H E) rest t ∧
        ta (startF N vs [none]) H fun us H1 => us.length ≤ 1000 ∧ H1 a = some (exo a C none) ∧ t { nx := fun _ H' => Q .non H', rt := Q } (startF N vs [none]) H1)
    (he : ∀ env, starEach (e :: es) env = (false, eval e env) :: starEach es env := by intro _; rfl) (hpl : ∀ env, (backTo p3 (starEach es env)).any (·.1) = false := by intro _; rfl)
    (hme : ∀ env, ∃ pl : Sem Bool, eval (.Call (.Attribute (.Call (.Name "super" p0) [] [] p1) "__init__" p2) (e :: es) [] p3) env = (do
      let v ← attributeBase (.Call (.Name "super" p0) [] [] p1) "__init__" env (eval (.Call (.Name "super" p0) [] [] p1) env)
      standAt p2.atName
      let (g, first) ← holding [v] (getMethod v "__init__" pl)
      callWith p3 g first (backTo p3 (starEach (e :: es) env)) []) := by intro _; exact ⟨_, rfl⟩) :
    FnOk P w K mg base CX (k + 1) f fd ps sp := by
  refine ⟨len, fun A outer s H args us vs Q E hr e0 hb r hsp => ?_⟩
  have hl := len _ _ _ _ hsp
  have KX : K.In s.heap := e0.mod.kin.keeps fun b o e => (e0.bs b o e).1
  have lim : s.heap.NoLimit := e0.mod.nolimit.keeps fun b o e => (e0.bs b o e).1
  obtain ⟨oc, od, kV, doc, pm, an, ct, osl, rfl, lk⟩ := T.fn
  obtain ⟨a, ws, ta, t, rfl, ea, hPA, hPS, hq⟩ := hbody A outer s H vs Q E (hr.deeper _) hsp
  obtain ⟨c1, d1, csl, hcc⟩ := T.cell
  have Hcc : H cc = none := (e0.bs cc _ (e0.mod.kin _ _ hcc)).2
  have CA : CellsAt [(("__class__" : Str), cc)] ["__class__"] [none] s.heap H := ⟨rfl, fun y c e => by
      by_cases hy : y = "__class__"
      · subst hy
        simp [List.lookup] at e
        subst e
        exact ⟨Hcc, _, _, KX _ _ hcc, rfl⟩
      · have z : (y == ("__class__" : Str)) = false := by simpa using hy
        simp [List.lookup, z] at e, fun x y c e1 e2 => by
      by_cases hx : x = "__class__"
      · by_cases hy : y = "__class__"
        · rw [hx, hy]
        · have z : (y == ("__class__" : Str)) = false := by simpa using hy
          simp [List.lookup, z] at e2
      · have z : (x == ("__class__" : Str)) = false := by simpa using hx
        simp [List.lookup, z] at e1, fun i y hy => by
      cases i with
      | zero =>
        have hy' : ("__class__" : Str) = y := by simpa using hy
        subst hy'
        exact ⟨cc, by simp [List.lookup], fun v hv => by simp at hv⟩
      | succ n => simp at hy⟩
  refine ks_codeAny_call_defAt hr.depth (KX _ _ lk) rfl lim (PySem.W.codeRec_of KX T.cd) rfl hb S.nocell (fun ⟨n, _⟩ hy => S.par n (List.of_mem_zip hy).1) (fun h₁ hns kp => ?_) S.co S.gen S.kind
  show PySem.wpAt _ (A.deeper (envF (nfX st qual cda cc) f s.heap.objs.size)) (.func (defBody st) (envF (nfX st qual cda cc) f s.heap.objs.size)) (execs (defBody st) (envF (nfX st qual cda cc) f s.heap.objs.size)) _ _ _
  have I : Inv (ncx CX P w K mg base N (nfX st qual cda cc) f A outer s H E) [] (startF N (.ref a :: ws) [none]) H { s with heap := h₁, toks := s.toks + (ps.zip us).length } := inv_startN S hr.hd e0 hl r CA hns kp
  rw [hst]
  obtain ⟨ar, har, hsf⟩ : ∃ ar, ((defArgs st).posonlyargs ++ (defArgs st).args).head? = some ar ∧ ar.arg = "self" := by
    cases z : ((defArgs st).posonlyargs ++ (defArgs st).args).head? with
    | none => rw [z] at hself; cases hself
    | some ar => rw [z] at hself; exact ⟨ar, rfl, Option.some.inj hself⟩
  obtain ⟨cc1, cd1, cvs, csl1, file, tf, hcode, hvs, hfile⟩ := T.code
  obtain ⟨nm, q, NN, bs, bm, sn, sub, ab, col, dd, k0, k1, k2, k3, k5, hC, hbm⟩ := T.o.cls
  have hcl : PySem.W.clsIn K C = some { name := nm, bases := bs, mro := .ref C :: bm, ns := NN, qualname := q, hasDict := true, slotNames := sn, subclasses := sub, abstract := ab, collection := col, hasDel := false } := by unfold PySem.W.clsIn; rw [hC] <;> rfl
  have hsu := T.su
  unfold PySem.W.ks_superIn at hsu
  rw [hcl, Option.bind_some] at hsu
  obtain ⟨t1, hx⟩ := exo_at I.hok ea
  obtain ⟨mb, hb1, hb2⟩ := I.mod.blt
  have hkc : (defScope st).names.lookup ("__class__" : Str) = some .free := S.frk _ (by simp)
  have hka : (defScope st).names.lookup ("self" : Str) = some .local := S.par _ (List.mem_of_getElem? hps)
  have ndP : ps.Nodup := by
    have z := S.nd.sublist (List.take_sublist (ps.length + 1) N)
    rw [show ps.length + 1 = ps.length + (["__class__"] : List Str).length from rfl, S.pre] at z
    exact (List.nodup_append.mp z).1
  cases r with
  | @cons _ u0 _ ur ra rw' =>
  obtain rfl : u0 = Value.ref a := ra
  have hv : (ps.zip (Value.ref a :: ur)).reverse.lookup ("self" : Str) = some (.ref a) := zip_look ndP hps rfl
  have XK := I.kIn
  obtain ⟨pl, hm⟩ := hme (envF (nfX st qual cda cc) f s.heap.objs.size)
  refine ks_wpAt_execs_cons (ks_wpAt_Expr_any (ks_wpAt_MethodCall (pl := pl) ?_ hm) I.quiet rfl)
  refine ks_wpAt_super_base (env := envF (nfX st qual cda cc) f s.heap.objs.size) hks hkc (by decide) rfl (XK _ _ lk) rfl har rfl (XK _ _ hcode) rfl hvs hfile T.top ?_
  refine PySem.W.ks_loadName_global S.kind hks (loadGlobal_builtin (I.mod.glob.keeps I.bk) T.nosu (hb1.keeps I.bk) ((hb2 _ (by decide)).trans (by kernel_rfl)) ⟨rfl, ?_⟩)
  refine wpAny_loadName_free S.kind hkc (by rfl) ⟨_, XK _ _ hcc, rfl⟩ ?_
  rw [hsf]
  refine wpAny_loadName_local S.kind hka hns hv ?_
  refine ks_wpAny_isType_cls (XK _ _ hC) rfl ⟨rfl, ?_⟩
  refine ks_wpAny_call_super (XK _ _ hC) rfl hx rfl (fun c z => by cases z) (PySem.W.looks_mroIn XK T.me) (fun h2 hso kp2 => ?_)
  have I2 := I.kept (t' := s.toks + (ps.zip (Value.ref a :: ur)).length) kp2
  have hxC : a ≠ C := fun z => by
    rw [z] at ea
    have y := (e0.bs C _ (e0.mod.kin _ _ hC)).2
    rw [ea] at y
    cases y
  have hI : PySem.W.Looks (model P w) h2 (isInstance (.ref a) (.type "ValueError")) true := by
    have J : PySem.W.InstAt h2 a _ C none := ⟨kp2 _ _ hx, rfl, rfl, trivial⟩
    exact J.type.andThen (PySem.W.looks_subIn I2.kIn T.ve)
  refine PySem.W.kxs_getMethod PySem.W.kxs_ValueError hso (PySem.W.looks_opaque I2.kIn T.opq) (fun A' Q' E' s' k' q' => wpAny_bind ((PySem.W.looks_clsIn I2.kIn hcl) A' _ E' s' k' (wpAny_pure q'))) rfl I2.kIn hsu hI hxC (by decide) ?_
  have I3 := (I2.kept (h' := h2.push (PySem.W.kxs_mw "ValueError.__init__" a)) (t' := s.toks + (ps.zip (Value.ref a :: ur)).length + 1) fun b o z => Heap.get?_push_of_some _ z).pins_of (pins' := [(h2.objs.size, PySem.W.kxs_mw "ValueError.__init__" a)]) (fun p hp => by
    rw [List.mem_singleton.mp hp]
    exact ⟨Heap.get?_push_at rfl rfl, I2.hok.fresh (Nat.le_refl _), Nat.ne_of_gt I2.lt, I2.nofs (Nat.le_refl _), fun v z => by cases z⟩)
  refine PySem.W.kxs_callWith (i := "ValueError.__init__") (x := a) (by rw [he]; show (false || (backTo p3 (starEach es _)).any (·.1)) = false; rw [hpl]; rfl) ?_
  have hev := he (envF (nfX st qual cda cc) f s.heap.objs.size)
  rw [hev]
  refine evalArgs_plain ?_
  show wpAny _ _ (spliced (backTo p3 ((false, eval e (envF (nfX st qual cda cc) f s.heap.objs.size)) :: starEach es (envF (nfX st qual cda cc) f s.heap.objs.size)))) _ _ _
  rw [← hev]
  refine thn (hPA.run p3 _ _ _ H _ I3 hq) fun us4 s4 ⟨vs4, H4, I4, r4, l4, e4, q4⟩ => ⟨(I4.pin _ (List.mem_append_right _ List.mem_cons_self)).1, ?_⟩
  obtain ⟨t4, h4⟩ := exo_at I4.hok e4
  have hu4 := (I4.pin _ (List.mem_append_right _ List.mem_cons_self)).1
  have K4 := I4.kIn
  obtain ⟨hp4, g4, d4, tk4, os4⟩ := s4
  refine call_veb (K4 _ _ hC) h4 hu4 (by show us4.length ≤ sizeLine; rw [← Paired.length r4, sizeLine_eq]; omega) fun h' t5 k5' e5 => ?_
  have J := I4.write (t' := tk4) (x := a) (e := a) (o := exo a C none) (by rw [e4]; exact True.intro) (.inl rfl) k5' ⟨_, e5⟩ (exo_ok e5)
  have eu : upd H4 a (exo a C none) = H4 := by
    funext b
    by_cases hb : b = a
    · rw [hb, upd_same, e4]
    · rw [upd_ne hb]
  rw [eu] at J
  show PySem.wpAt _ _ _ (execs rest _) _ _ _
  refine wpAt_of_wpAny (wpAny_mono (hPS.run _ _ _ H4 _ J q4) (fun fl s' hs => ?_) fun e s' hs => hs)
  have fin : ∀ {σ' : L2.St} {H' : Hp} {v : V} {u : Value} {pins : List (Addr × Obj)}, Inv (ncx CX P w K mg base N (nfX st qual cda cc) f A outer s H E) pins σ' H' s' → L2.RelV v u → Q v H' → CE outer P w H s Q u s' :=
    fun {σ' H' v u pins} J rv q => ⟨v, H', J.os, J.bare, J.base, J.hok, rv, q⟩
  cases fl with
  | ret u =>
    obtain ⟨v, σ', H', J', rv, q'⟩ := hs
    exact fin J' rv q'
  | next =>
    obtain ⟨σ', H', J', q'⟩ := hs
    exact fin (v := V.non) (u := Value.none) J' rfl q'
  | brk =>
    obtain ⟨_, _, _, q'⟩ := hs
    exact False.elim q'
  | cont =>
    obtain ⟨_, _, _, q'⟩ := hs
    exact False.elim q'
theorem SuX.binds (T : SuX P K mg C f st qual fd cda cc) (h : ∀ (kV doc pm : Value) (an : Option Addr) (ct : Value) (us : List Value), us.length = ps.length → bindArgs (PySem.W.fnX "__init__" qual (defArgs st) (defBody st) (defScope st) [("__class__", cc)] .none kV doc pm an (.ref cda) ct) ⟨us, []⟩ = pure (ps.zip us)) : Binds K fd ps [] := by
  obtain ⟨oc, od, kV, doc, pm, an, ct, osl, rfl, lk⟩ := T.fn
  exact .all (h kV doc pm an ct)
end
end Rl
end
section
set_option maxHeartbeats 2000000
namespace Rl
open PySem PySem.Spec PyProof.Rows L2
/-! ### the head's facts of own exceptions -/
/-- the class at C is an own exception over ValueError -/
def oexB (K : PySem.W.Frag) (C : Addr) : Bool := match K.lookup C with
  | some ⟨.type t, _, .cls cd, sl⟩ => (match cd.mro, sl.toList with
    | .ref D :: bm, [_, _, _, _, some (.builtin n), _] => decide (t = "type") && (decide (D = C) && (decide (n = "ValueError.__new__") && (!cd.hasDel && (cd.hasDict && PySem.HandSPX.refsVE bm))))
    | _, _ => false)
  | _ => false
theorem oexB_ok {K : PySem.W.Frag} {C : Addr} (h : oexB K C = true) :
    ∃ nm q N bs bm sn sub ab col dd k0 k1 k2 k3 k5, K.lookup C = some (excClassObj nm q C N bs bm true sn sub ab col dd k0 k1 k2 k3 k5 "ValueError.__new__") ∧ PySem.HandSPX.refsVE bm = true := by
  unfold oexB at h
  split at h
  · rename_i t dd cd sl ho
    split at h
    · rename_i D bm k0 k1 k2 k3 n k5 hm hs
      obtain ⟨h1, h⟩ := He.ba h
      obtain ⟨h2, h⟩ := He.ba h
      obtain ⟨h3, h⟩ := He.ba h
      obtain ⟨h4, h⟩ := He.ba h
      obtain ⟨h5, h6⟩ := He.ba h
      have e1 := of_decide_eq_true h1
      have e2 := of_decide_eq_true h2
      have e3 := of_decide_eq_true h3
      subst e1 e2 e3
      obtain ⟨nm, bs, mro, ns, qn, hd, sn, sub, ab, col, del⟩ := cd
      have e4 : del = false := by simpa using h4
      have e5 : hd = true := h5
      dsimp only at hm
      subst hm e4 e5
      have hsl : sl = #[k0, k1, k2, k3, some (.builtin "ValueError.__new__"), k5] := by
        obtain ⟨l⟩ := sl
        simp only at hs
        rw [hs]
      subst hsl
      exact ⟨nm, qn, ns, bs, bm, sn, sub, ab, col, dd, k0, k1, k2, k3, k5, ho, h6⟩
    · cases h
  · cases h
abbrev XW : Type := Option (Str × Str × Arguments × FuncBody × Scope × Addr × List Str × Addr)
/-- the words of the __init__ of the class named x -/
def xiW (K : PySem.W.Frag) (x : Str) : XW := match K.lookup (He.ma K (He.ga K x) "__init__") with
  | some ⟨_, _, .func fd, _⟩ => some (fd.name, fd.qualname, fd.params, fd.body, fd.scope, fd.globals, fd.closure.map (·.1), fd.builtins)
  | _ => none
def xiV (st : Stmt) (qual : Str) : XW := some ("__init__", qual, defArgs st, .stmts (defBody st), defScope st, mainGlobals, ["__class__"], builtinsNs)
/-- its defaults, code and cell -/
def xiF (K : PySem.W.Frag) (C f : Addr) (file qual : Str) : Bool := match K.lookup f with
  | some ⟨_, _, .func fd, _⟩ => (match fd.defaults, fd.code, fd.closure with
    | .none, .ref cda, [(_, cc)] => PySem.W.codeIn K (.ref cda) qual && ((match K.lookup cda with
        | some ⟨_, _, .fields vs, _⟩ => (match (vs[2]? : Option Value) with
          | some (.str y _) => decide (y = file)
          | _ => false)
        | _ => false) && (match K.lookup cc with
        | some ⟨_, _, .cell (some (.ref D)), _⟩ => decide (D = C)
        | _ => false))
    | _, _, _ => false)
  | _ => false
def xiB (K : PySem.W.Frag) (C f : Addr) (file qual : Str) : Bool := oexB K C && (xiF K C f file qual && (decide (PySem.W.findIn K (.ref C) "__setattr__" = some (some (.builtin "object.__setattr__"))) && (decide (PySem.W.subIn K (.ref C) (.type "BaseException") = some true) && (decide (PySem.W.typeIn K (.ref C) = some (.type "type")) &&
  (PySem.W.keepIn K (.ref C) && (decide (PySem.W.findIn K (.ref C) "__init__" = some (some (.ref f))) && (decide (PySem.W.typeIn K (.ref f) = some (.type "function")) && (decide (PySem.W.ks_superIn K C C "__init__" = some (some (.builtin "ValueError.__init__"))) &&
  (decide (PySem.W.subIn K (.ref C) (.type "ValueError") = some true) && (decide (PySem.W.mroIn K C (.ref C) = some true) && decide (PySem.W.nsIn K cStatics "thirdparty.any" = some none)))))))))))
theorem xi_ok {P : Program} {K : PySem.W.Frag} {mg : Str → Option Value} {x : Str} {st : Stmt} {qual file : Str} (e : xiW K x = xiV st qual) (c : xiB K (He.ga K x) (He.ma K (He.ga K x) "__init__") file qual = true) (hf : P.main.file = file) (ns : mg "super" = none) (tp : (P.main.scope.names.lookup ("super" : Str)).isSome = false) :
    ∃ fd cda cc, SuX P K mg (He.ga K x) (He.ma K (He.ga K x) "__init__") st qual fd cda cc := by
  obtain ⟨c1, c⟩ := He.ba c
  obtain ⟨c2, c⟩ := He.ba c
  obtain ⟨c3, c⟩ := He.ba c
  obtain ⟨c4, c⟩ := He.ba c
  obtain ⟨c5, c⟩ := He.ba c
  obtain ⟨c6, c⟩ := He.ba c
  obtain ⟨c7, c⟩ := He.ba c
  obtain ⟨c8, c⟩ := He.ba c
  obtain ⟨c9, c⟩ := He.ba c
  obtain ⟨c10, c⟩ := He.ba c
  obtain ⟨c11, c12⟩ := He.ba c
  unfold xiF at c2
  unfold xiW at e
  cases q : K.lookup (He.ma K (He.ga K x) "__init__") with
  | none =>
    rw [q] at c2
    cases c2
  | some o =>
    obtain ⟨oc, od, dt, osl⟩ := o
    rw [q] at c2 e
    cases dt with
    | func fd =>
      obtain ⟨n1, n2, n3, n4, n5, n6, n7, n8, n9, n10, n11, n12, n13, n14, n15⟩ := fd
      have e2 : (some (n1, n2, n3, n4, n5, n6, n7.map (·.1), n15) : XW) = xiV st qual := e
      unfold xiV at e2
      simp only [Option.some.injEq, Prod.mk.injEq] at e2
      obtain ⟨h1, h2, h3, h4, h5, h6, h7, h8⟩ := e2
      subst h1 h2 h3 h4 h5 h6 h8
      dsimp only at c2
      split at c2
      · rename_i cda nm cc
        obtain ⟨k1, k2⟩ := He.ba c2
        obtain ⟨k2, k3⟩ := He.ba k2
        have en : nm = "__class__" := by simpa using h7
        subst en
        refine ⟨_, cda, cc, ⟨oexB_ok c1, of_decide_eq_true c3, of_decide_eq_true c4, of_decide_eq_true c5, c6⟩, of_decide_eq_true c7, of_decide_eq_true c8, of_decide_eq_true c9, of_decide_eq_true c10, of_decide_eq_true c11, of_decide_eq_true c12, ⟨oc, od, n9, n10, n11, n12, n14, osl, rfl, q⟩, k1, ?_, ?_, ns, tp⟩
        · split at k2
          · rename_i c d vs sl hl
            split at k2
            · rename_i y t hy
              exact ⟨c, d, vs, sl, y, t, hl, hy, beq_iff_eq.mpr (hf.trans (of_decide_eq_true k2).symm)⟩
            · cases k2
          · cases k2
        · split at k3
          · rename_i c d D sl hl
            have eD := of_decide_eq_true k3
            subst eD
            exact ⟨c, d, sl, hl⟩
          · cases k3
      · cases c2
    | _ => cases c2
/-- what isinstance and the fields ask of the class -/
def xcB (K : PySem.W.Frag) (C : Addr) : Bool := xfB K C && (decide (PySem.W.findIn K (.ref C) "__class__" = some (some (.builtin "object.__class__"))) && (decide (PySem.W.specialIn K (.builtin "object.__class__") "__get__" = some (some (.builtin "getset_descriptor.__get__"))) && (decide (PySem.W.takesIn K (.builtin "object.__class__") = some true) && decide (PySem.W.mroIn K C (.type "object") = some true))))
theorem xcB_ok {K : PySem.W.Frag} {C : Addr} (h : xcB K C = true) : ExcC K C ∧ XfC K C := by
  obtain ⟨h1, h⟩ := He.ba h
  obtain ⟨h2, h⟩ := He.ba h
  obtain ⟨h3, h⟩ := He.ba h
  obtain ⟨h4, h5⟩ := He.ba h
  have x := xfB_ok h1
  exact ⟨⟨x.ga, x.gg, x.exC, x.hdC, of_decide_eq_true h2, of_decide_eq_true h3, of_decide_eq_true h4, of_decide_eq_true h5⟩, x⟩
end Rl
end
section
namespace Nl
open PySem PySem.Spec PyProof.Rows L2 Nt
/-! ### heaps -/
def Kp (p : Addr) (H H' : Hp) : Prop := ∀ b o, b ≠ p → H b = some o → H' b = some o
theorem Kp.trans {p : Addr} {H H1 H2 : Hp} (x : Kp p H H1) (y : Kp p H1 H2) : Kp p H H2 := fun b o n e => y b o n (x b o n e)
theorem Kp.new {p q : Addr} {H : Hp} {o : HO} (h : H q = none) : Kp p H (upd H q o) := fun b u _ e => by
  rw [upd_ne (ne_of_none e h)]; exact e
theorem Kp.here {p : Addr} {H : Hp} {o : HO} : Kp p H (upd H p o) := fun b u n e => by
  rw [upd_ne n]; exact e
theorem Kp.of_same {p : Addr} {H H' : Hp} (h : Same H H') : Kp p H H' := fun b o _ e => h b o e
theorem same_new {H : Hp} {p : Addr} {o : HO} (h : H p = none) : Same H (upd H p o) := fun b x e => by
  rw [upd_ne (ne_of_none e h)]; exact e
/-- behind a lock: all is as it was -/
theorem same_lock {H H1 : Hp} {d : Addr} {u : HO} {od : Obj} (hd : H d = some u) (s : Same (upd H d (.frz od u)) H1) : H1 d = some (.frz od u) ∧ Same H (upd H1 d u) := by
  refine ⟨s d _ upd_same, fun b o e => ?_⟩
  by_cases hb : b = d
  · subst hb
    rw [hd] at e
    rw [upd_same]; exact e
  · rw [upd_ne hb]
    exact s b o (by rw [upd_ne hb]; exact e)
/-! ### the two dicts -/
def bk (B : Br) : List (Key × V) := B.map fun p => (Sum.inr p.1, V.int p.2)
def pt (P : Pi) : List (List Key × V) := P.map fun p => (Rl.pk p.1, V.int p.2)
def getP (P : Pi) (q : Str × Str) : Option Int := (P.find? fun p => decide (p.1 = q)).map (·.2)
theorem valV_bk (B : Br) (x : Str) : valV (bk B) (Sum.inr x : Key) = (getB B x).map V.int := by
  induction B with
  | nil => rfl
  | cons p r ih =>
    unfold valV getB bk
    rw [List.map_cons, List.find?_cons, List.find?_cons]
    by_cases h : p.1 = x
    · have e1 : decide ((Sum.inr p.1 : Key) = Sum.inr x) = true := decide_eq_true (by rw [h])
      rw [show decide (((Sum.inr p.1 : Key), V.int p.2).1 = Sum.inr x) = true from e1, show decide (p.1 = x) = true from decide_eq_true h]; rfl
    · have e1 : decide ((Sum.inr p.1 : Key) = Sum.inr x) = false := decide_eq_false (fun z => h (Sum.inr.inj z))
      rw [show decide (((Sum.inr p.1 : Key), V.int p.2).1 = Sum.inr x) = false from e1, show decide (p.1 = x) = false from decide_eq_false h]
      exact ih
theorem valV_pt (P : Pi) (q : Str × Str) : valV (pt P) (Rl.pk q) = (getP P q).map V.int := by
  induction P with
  | nil => rfl
  | cons p r ih =>
    unfold valV getP pt
    rw [List.map_cons, List.find?_cons, List.find?_cons]
    by_cases h : p.1 = q
    · have e1 : decide (Rl.pk p.1 = Rl.pk q) = true := decide_eq_true (by rw [h])
      rw [show decide ((Rl.pk p.1, V.int p.2).1 = Rl.pk q) = true from e1, show decide (p.1 = q) = true from decide_eq_true h]; rfl
    · have e1 : decide (Rl.pk p.1 = Rl.pk q) = false := decide_eq_false (fun z => h (Rl.pk_inj z))
      rw [show decide ((Rl.pk p.1, V.int p.2).1 = Rl.pk q) = false from e1, show decide (p.1 = q) = false from decide_eq_false h]
      exact ih
theorem getP_of_mem {P : Pi} (nd : (P.map Prod.fst).Nodup) {q : Str × Str} {w : Int} (h : (q, w) ∈ P) : getP P q = some w := by
  induction P with
  | nil => exact (List.not_mem_nil h).elim
  | cons p r ih =>
    obtain ⟨n1, n2⟩ := List.nodup_cons.mp (show (p.1 :: r.map Prod.fst).Nodup from nd)
    unfold getP
    rw [List.find?_cons]
    rcases List.mem_cons.mp h with e | e
    · rw [← e]; simp
    · have ne : p.1 ≠ q := fun z => n1 (by rw [z]; exact List.mem_map.mpr ⟨_, e, rfl⟩)
      rw [decide_eq_false ne]
      exact ih n2 e
/-! ### texts -/
def Sm (n : Nat) (z : Str) : Prop := z.length ≤ n ∧ ∀ c ∈ z.cps.toList, c < 1000
theorem len_list (z : Str) : z.length = z.cps.toList.length := by
  show z.cps.size = _
  rw [Array.length_toList]
def abc : Str := "abcdefghijklmnopqrstuvwxyz"
def nameB (z : Str) : Bool := decide (1 ≤ z.length ∧ z.length ≤ 8) && z.cps.toList.all fun c => decide (c ∈ abc.cps.toList)
def Nm (z : Str) : Prop := nameB z = true
theorem abc_small : ∀ c ∈ abc.cps.toList, c < 1000 := by decide +kernel
theorem Nm.iff {z : Str} : Nm z ↔ (1 ≤ z.length ∧ z.length ≤ 8) ∧ ∀ c ∈ z.cps.toList, c ∈ abc.cps.toList := by
  unfold Nm nameB
  rw [Bool.and_eq_true, decide_eq_true_iff, List.all_eq_true]
  simp only [decide_eq_true_iff]
theorem Nm.sm {z : Str} (h : Nm z) : Sm 8 z := ⟨(Nm.iff.mp h).1.2, fun c hc => abc_small c ((Nm.iff.mp h).2 c hc)⟩
theorem Sm.mono {m n : Nat} {z : Str} (h : Sm m z) (l : m ≤ n) : Sm n z := ⟨Nat.le_trans h.1 l, h.2⟩
theorem Sm.fits {n : Nat} {z : Str} (h : Sm n z) (l : n ≤ 1000) : z.length ≤ sizeLine := Nat.le_of_lt (small1000 (Nat.le_trans h.1 l))
theorem line1000 {n : Nat} (h : n ≤ 1000) : n ≤ sizeLine := Nat.le_of_lt (small1000 h)
theorem decStr (a b : Str) : decide (V.str a = V.str b) = decide (a = b) := by
  by_cases h : a = b
  · rw [decide_eq_true h, decide_eq_true (by rw [h])]
  · rw [decide_eq_false h, decide_eq_false (fun z => h (V.str.inj z))]
section
variable {P : Program} {w : World} {K : PySem.W.Frag} {mg : Str → Option Value} {base : Heap}
/-! ### is_whole, is_name, is_measure -/
theorem scWhole : FnScope ["thing", "least"] ["thing", "least"] (defScope sWhole) := ⟨rfl, rfl, rfl, by decide +kernel, rfl, by decide +kernel, by decide +kernel⟩
def spWhole : Sp := fun vs H Q _ => ∃ i j : Int, vs = [.int i, .int j] ∧ Q (.bl (decide (i ≥ j))) H
theorem ok_whole {f : Addr} {fd : FuncData} {k : Nat} (F : Fun K "is_whole" "is_whole" sWhole f fd) (mi : mg "isinstance" = none) (mt : mg "int" = none) (mb : mg "bool" = none) :
    FnOk P w K mg base CX0 (k + 1) f fd ["thing", "least"] spWhole := by
  refine F.ok scWhole (fun vs H Q E h => ?_) (fun cdv A outer s H vs Q E hr h => ?_)
  · obtain ⟨i, j, rfl, _⟩ := h
    rfl
  · obtain ⟨i, j, rfl, q⟩ := h
    refine ⟨_, pss_one (ps_ret (pe_and (pe_callB call_isi (by rfl) mi (by decide +kernel) (pa_cons (pv 0) (pa_cons (pe_bltn (v := .ty "int") (by rfl) mt (by decide +kernel) rfl) pa_nil)))
      (pe_and (pe_not (pe_callB call_isi (by rfl) mi (by decide +kernel) (pa_cons (pv 0) (pa_cons (pe_bltn (v := .ty "bool") (by rfl) mb (by decide +kernel) rfl) pa_nil)))) (pe_one (pe_cmpR op_ge (pv 0) (pv 1) (nomark _)))))), ?_⟩
    refine ⟨.int i, rfl, .int i, .ty "int", .type "int", .type "int", true, rfl, .ty _, .base (.int i), kit_ty (by decide +kernel), true, rfl, iteT ?_⟩
    refine ⟨.int i, rfl, .int i, .ty "bool", .type "int", .type "bool", false, rfl, .ty _, .base (.int i), kit_ty (by decide +kernel), false, rfl, true, rfl, iteT ?_⟩
    exact ⟨.int i, rfl, .int j, rfl, i, j, rfl, rfl, q⟩
theorem scName : FnScope ["thing", "letter"] ["thing"] (defScope sName) := ⟨rfl, rfl, rfl, by decide +kernel, rfl, by decide +kernel, by decide +kernel⟩
def spName : Sp := fun vs H Q _ => ∃ z : Str, vs = [.str z] ∧ Sm 25 z ∧ ∀ H', Same H H' → Q (.bl (nameB z)) H'
theorem ok_name {f : Addr} {fd : FuncData} {k : Nat} {tm tl : Tok} (F : Fun K "is_name" "is_name" sName f fd) (mi : mg "isinstance" = none) (ms : mg "str" = none) (ml : mg "len" = none) (ma : mg "all" = none)
    (gM : mg "MOST_LETTERS" = some (.int 8 tm)) (gL : mg "LETTERS" = some (.str abc tl)) : FnOk P w K mg base CX0 (k + 1) f fd ["thing"] spName := by
  refine F.ok scName (fun vs H Q E h => ?_) (fun cdv A outer s H vs Q E hr h => ?_)
  · obtain ⟨z, rfl, _⟩ := h
    rfl
  · obtain ⟨z, rfl, hz, q⟩ := h
    refine ⟨_, pss_cons (ps_if (PW.pt (pw_or (pt_not (pt_val (pe_callB call_isi (by rfl) mi (by decide +kernel) (pa_cons (pv 0) (pa_cons (pe_bltn (v := .ty "str") (by rfl) ms (by decide +kernel) rfl) pa_nil)))))
        (pw_or1 (pt_not (pt_chain op_le op_le pe_int (pe_callB call_len_str (by rfl) ml PySem.boot_len (pa_cons (pv 0) pa_nil)) (pe_glob (v := .int 8) rfl gM ⟨_, rfl⟩)))))) (pss_one (ps_ret pe_bl)) pss_nil)
      (pss_one (ps_ret (pe_callB (cr_all rfl) (by rfl) ma (by decide +kernel) (pa_cons (pe_lc (own := [("letter", 1)]) (g := gName 1) (tt := tYes) rfl scName.nd (pi_str (pv 0))
        (blkOk_by (N := ["thing", "letter"]) (sc := defScope sName) (by decide +kernel)) (fun _ _ _ _ _ => pg_name (i := 1) scName.nd rfl (Or.inl rfl)) (fun _ _ _ _ _ => pts_nil)
        (fun _ _ _ _ _ => pe_cmpR op_in_sign (pv 1) (pe_glob (v := .str abc) rfl gL ⟨_, rfl⟩) (by rfl))) pa_nil)))), ?_⟩
    refine ⟨.str z, rfl, .str z, .ty "str", .type "str", .type "str", true, rfl, .ty _, .base (.str z), kit_ty (by decide +kernel), true, rfl, iteF ?_⟩
    have hf := hz.fits (by decide)
    have no : ¬ (1 ≤ z.length ∧ z.length ≤ 8) → nameB z = false := fun h => by
      unfold nameB
      rw [decide_eq_false h]; rfl
    refine ⟨.str z, rfl, z, rfl, hf, 1, _, rfl, rfl, _, rfl, ite2 (fun c1 => ?_) (fun c1 => ?_)⟩
    · refine ⟨_, _, rfl, rfl, _, rfl, ite2 (fun c2 => ?_) (fun c2 => ?_)⟩
      · have c3 : ¬ ((z.length : Int) ≤ 8) := fun e => by rw [decide_eq_true e] at c2; cases c2
        have := q H (Same.refl H)
        rw [no (by omega)] at this
        exact this
      · have c1' := of_decide_eq_true c1
        have c3 : (z.length : Int) ≤ 8 := by
          by_cases e : (z.length : Int) ≤ 8
          · exact e
          · rw [decide_eq_false e] at c2; exact absurd rfl c2
        refine ⟨.str z, rfl, z, rfl, fun D nD => ?_⟩
        refine lc_it walk_str (fun i H1 => ∃ bs : List Bool, H1 D = some (.lst (bs.map V.bl)) ∧ bs = (z.cps.toList.take i).map (fun c => decide (c ∈ abc.cps.toList)) ∧ Same H H1) ?_ (fun _ _ _ _ => trivial) ?_ ?_
        · exact ⟨[], upd_same, rfl, same_new nD⟩
        · rintro i x H1 H2 hi ⟨bs, hD, hb, sm⟩ ⟨rfl, c, hc, rfl⟩
          have hc' : z.cps.toList[i]? = some c := by rw [Array.getElem?_toList]; exact hc
          refine ⟨rfl, .str ⟨#[c]⟩, rfl, c, abc, rfl, rfl, _, hD, ?_, bs ++ [decide (c ∈ abc.cps.toList)], ?_, ?_, ?_⟩
          · rw [List.length_map, hb, List.length_map, List.length_take]
            exact small1000 (by have := hz.1; rw [len_list] at this; omega)
          · rw [upd_same, List.map_append]; rfl
          · rw [hb, List.take_add_one, hc', List.map_append]; rfl
          · exact fun b o e => by
              have nb : b ≠ D := ne_of_none e nD
              rw [upd_ne nb]; exact sm b o e
        · rintro H1 ⟨bs, hD, hb, sm⟩
          refine ⟨D, bs, rfl, SqL.of hD, ?_⟩
          have e : bs.all id = nameB z := by
            unfold nameB
            rw [decide_eq_true (show 1 ≤ z.length ∧ z.length ≤ 8 by omega), hb, List.take_of_length_le (by rw [Array.length_toList]; exact Nat.le_refl _), List.all_map]
            rfl
          rw [e]
          exact q H1 sm
    · refine ⟨false, rfl, iteT ?_⟩
      have c3 : ¬ ((1 : Int) ≤ (z.length : Int)) := fun e => c1 (decide_eq_true e)
      have := q H (Same.refl H)
      rw [no (by omega)] at this
      exact this
theorem scMeas : FnScope ["thing"] ["thing"] (defScope sMeas) := ⟨rfl, rfl, rfl, by decide +kernel, rfl, by decide +kernel, by decide +kernel⟩
def spMeas : Sp := fun vs H Q _ => ∃ i : Int, vs = [.int i] ∧ 1 ≤ i ∧ i ≤ 60 ∧ Q (.bl true) H
theorem ok_meas {f fW : Addr} {fd fdW : FuncData} {tm : Tok} (F : Fun K "is_measure" "is_measure" sMeas f fd) (FW : Fun K "is_whole" "is_whole" sWhole fW fdW) (GW : FnOk P w K mg base CX0 1 fW fdW ["thing", "least"] spWhole) (bW : Binds K fdW ["thing", "least"] []) (gW : mg "is_whole" = some (.ref fW))
    (gM : mg "MOST_BRIM" = some (.int 60 tm)) : FnOk P w K mg base CX0 2 f fd ["thing"] spMeas := by
  refine F.ok scMeas (fun vs H Q E h => ?_) (fun cdv A outer s H vs Q E hr h => ?_)
  · obtain ⟨i, rfl, _⟩ := h
    rfl
  · obtain ⟨i, rfl, l1, l2, q⟩ := h
    refine ⟨_, pss_one (ps_ret (pe_and (pe_call GW hr (by rfl) gW FW.kp bW .nil pass0 (pa_cons (pv 0) (pa_cons pe_int pa_nil))) (pe_one (pe_cmpR op_le (pv 0) (pe_glob (v := .int 60) rfl gM ⟨_, rfl⟩) (nomark _))))), ?_⟩
    refine ⟨.int i, rfl, i, 1, rfl, ?_⟩
    rw [decide_eq_true (show i ≥ 1 from l1)]
    refine ⟨true, rfl, iteT ⟨.int i, rfl, i, 60, rfl, rfl, ?_⟩⟩
    show Q (.bl (decide (i ≤ 60))) H
    rw [decide_eq_true l2]
    exact q
end
end Nl
end
section
set_option maxHeartbeats 0
namespace Nl
open PySem PySem.Spec PyProof.Rows L2
/-! ### what the top leaves: facts by names -/
/-- the keyword-only default x of the def at f, if it is an object -/
def kwAt (f : Str × Option Str) (x : Str) (K : PySem.W.Frag) : Addr := match K.lookup (He.fAd K f) with
  | some ⟨_, _, .func fd, _⟩ => (match fd.kwdefaults with
    | .ref D => (match PySem.W.nsIn K D x with
      | some (some (.ref a)) => a
      | _ => 0)
    | _ => 0)
  | _ => 0
/-- the empty tuple stands there -/
def tup0 (K : PySem.W.Frag) (a : Addr) : Bool := match K.lookup a with
  | some ⟨.type c, _, .seq its _, _⟩ => decide (c = "tuple") && its.toList.isEmpty
  | _ => false
/-- one step: what the objects name -/
def nextA (g : Addr → Option Obj) (as : List Addr) : List Addr := as.flatMap fun a => match g a with
  | some o => He.refsD o
  | none => []
/-- the names that are looked up -/
def lookN : List Str := (["is_whole", "is_name", "is_measure", "is_pond_of", "is_pair_of", "goes_out", "comes_in", "steps_out", "pipes_out", "pipes_in", "check_ponds", "check_pipes", "check_sides", "check_ways", "wrong_keys", "for_all_ponds", "_law_pot", "_law_draw", "_law_name", "balance_row", "solved_for", "still_over", "least_tops", "_law_out", "_law_in", "_law_closed", "_law_net", "_law_poured", "common_divisor", "fraction"] : List Str) ++ (["shares", "_law_divisor", "_law_is_share", "_law_hold", "_law_refused", "_law_bad", "law", "Net", "Stand", "BadPoured", "BadCount", "WaterError", "StandError", "NetError"] : List Str)
def next3 (g : Addr → Option Obj) (a1 a2 a3 : List Addr) : List Addr := mainGlobals :: cStatics :: sysModules :: (a1 ++ (a2 ++ (a3 ++ nextA g a3)))
def next2 (g : Addr → Option Obj) (a1 a2 : List Addr) : List Addr := next3 g a1 a2 (nextA g a2)
def next1 (g : Addr → Option Obj) (a1 : List Addr) : List Addr := next2 g a1 (nextA g a1)
/-- the objects that are looked at: the module's names, what they reach in three steps -/
def asN (g : Addr → Option Obj) : List Addr := next1 g (lookN.map (He.ga (He.frG g [mainGlobals])))
def d_whole : He.DefD := ⟨("is_whole", none), "is_whole", "is_whole", defArgs sWhole, defBody sWhole, defScope sWhole, [], []⟩
def d_name : He.DefD := ⟨("is_name", none), "is_name", "is_name", defArgs sName, defBody sName, defScope sName, [], []⟩
def d_meas : He.DefD := ⟨("is_measure", none), "is_measure", "is_measure", defArgs sMeas, defBody sMeas, defScope sMeas, [], []⟩
def d_pondOf : He.DefD := ⟨("is_pond_of", none), "is_pond_of", "is_pond_of", defArgs sPondOf, defBody sPondOf, defScope sPondOf, [], []⟩
def d_pairOf : He.DefD := ⟨("is_pair_of", none), "is_pair_of", "is_pair_of", defArgs sPairOf, defBody sPairOf, defScope sPairOf, [], []⟩
def d_goes : He.DefD := ⟨("goes_out", none), "goes_out", "goes_out", defArgs sGoes, defBody sGoes, defScope sGoes, [], []⟩
def d_comes : He.DefD := ⟨("comes_in", none), "comes_in", "comes_in", defArgs sComes, defBody sComes, defScope sComes, [], []⟩
def d_steps : He.DefD := ⟨("steps_out", none), "steps_out", "steps_out", defArgs sSteps, defBody sSteps, defScope sSteps, [], []⟩
def d_pOut : He.DefD := ⟨("pipes_out", none), "pipes_out", "pipes_out", defArgs sPipesOut, defBody sPipesOut, defScope sPipesOut, [], []⟩
def d_pIn : He.DefD := ⟨("pipes_in", none), "pipes_in", "pipes_in", defArgs sPipesIn, defBody sPipesIn, defScope sPipesIn, [], []⟩
def d_ckPonds : He.DefD := ⟨("check_ponds", none), "check_ponds", "check_ponds", defArgs sCkPonds, defBody sCkPonds, defScope sCkPonds, [], []⟩
def d_ckPipes : He.DefD := ⟨("check_pipes", none), "check_pipes", "check_pipes", defArgs sCkPipes, defBody sCkPipes, defScope sCkPipes, [], []⟩
def d_ckSides : He.DefD := ⟨("check_sides", none), "check_sides", "check_sides", defArgs sCkSides, defBody sCkSides, defScope sCkSides, [], []⟩
def d_ckWays : He.DefD := ⟨("check_ways", none), "check_ways", "check_ways", defArgs sCkWays, defBody sCkWays, defScope sCkWays, [], []⟩
def d_wrong : He.DefD := ⟨("wrong_keys", none), "wrong_keys", "wrong_keys", defArgs sWrong, defBody sWrong, defScope sWrong, [], []⟩
def d_forAll : He.DefD := ⟨("for_all_ponds", none), "for_all_ponds", "for_all_ponds", defArgs sForAll, defBody sForAll, defScope sForAll, [], []⟩
def d_pot : He.DefD := ⟨("_law_pot", none), "_law_pot", "_law_pot", defArgs sPot, defBody sPot, defScope sPot, [], []⟩
def d_draw : He.DefD := ⟨("_law_draw", none), "_law_draw", "_law_draw", defArgs sDraw, defBody sDraw, defScope sDraw, [], []⟩
def d_lname : He.DefD := ⟨("_law_name", none), "_law_name", "_law_name", defArgs sLName, defBody sLName, defScope sLName, [], []⟩
def d_balRow : He.DefD := ⟨("balance_row", none), "balance_row", "balance_row", defArgs sBalRow, defBody sBalRow, defScope sBalRow, [], []⟩
def d_solved : He.DefD := ⟨("solved_for", none), "solved_for", "solved_for", defArgs sSolved, defBody sSolved, defScope sSolved, [], []⟩
def d_still : He.DefD := ⟨("still_over", none), "still_over", "still_over", defArgs sStill, defBody sStill, defScope sStill, [], []⟩
def d_least : He.DefD := ⟨("least_tops", none), "least_tops", "least_tops", defArgs sLeast, defBody sLeast, defScope sLeast, [], []⟩
def d_lout : He.DefD := ⟨("_law_out", none), "_law_out", "_law_out", defArgs sLOut, defBody sLOut, defScope sLOut, [], []⟩
def d_lin : He.DefD := ⟨("_law_in", none), "_law_in", "_law_in", defArgs sLIn, defBody sLIn, defScope sLIn, [], []⟩
def d_closed : He.DefD := ⟨("_law_closed", none), "_law_closed", "_law_closed", defArgs sClosed, defBody sClosed, defScope sClosed, [], []⟩
def d_lnet : He.DefD := ⟨("_law_net", none), "_law_net", "_law_net", defArgs sNet, defBody sNet, defScope sNet, [], []⟩
def d_lpoured : He.DefD := ⟨("_law_poured", none), "_law_poured", "_law_poured", defArgs sLPoured, defBody sLPoured, defScope sLPoured, [], []⟩
def d_gcd : He.DefD := ⟨("common_divisor", none), "common_divisor", "common_divisor", defArgs sGcd, defBody sGcd, defScope sGcd, [], []⟩
def d_frac : He.DefD := ⟨("fraction", none), "fraction", "fraction", defArgs sFrac, defBody sFrac, defScope sFrac, [], []⟩
def d_shares : He.DefD := ⟨("shares", none), "shares", "shares", defArgs sShares, defBody sShares, defScope sShares, [], []⟩
def d_ldiv : He.DefD := ⟨("_law_divisor", none), "_law_divisor", "_law_divisor", defArgs s_law_divisor, defBody s_law_divisor, defScope s_law_divisor, [], []⟩
def d_isShare : He.DefD := ⟨("_law_is_share", none), "_law_is_share", "_law_is_share", defArgs s_law_is_share, defBody s_law_is_share, defScope s_law_is_share, [], []⟩
def d_hold : He.DefD := ⟨("_law_hold", none), "_law_hold", "_law_hold", defArgs s_law_hold, defBody s_law_hold, defScope s_law_hold, [], []⟩
def d_refused : He.DefD := ⟨("_law_refused", none), "_law_refused", "_law_refused", defArgs sRefused, defBody sRefused, defScope sRefused, [], []⟩
def d_bad : He.DefD := ⟨("_law_bad", none), "_law_bad", "_law_bad", defArgs s_law_bad, defBody s_law_bad, defScope s_law_bad, [], []⟩
def d_law : He.DefD := ⟨("law", none), "law", "law", defArgs sLaw, defBody sLaw, defScope sLaw, [], []⟩
def d_has : He.DefD := ⟨("Net", some "has_pond"), "has_pond", "Net.has_pond", defArgs mNet_has_pond, defBody mNet_has_pond, defScope mNet_has_pond, [], []⟩
def d_chk : He.DefD := ⟨("Net", some "check_pond"), "check_pond", "Net.check_pond", defArgs mNet_check_pond, defBody mNet_check_pond, defScope mNet_check_pond, [], []⟩
def d_ponds : He.DefD := ⟨("Net", some "ponds"), "ponds", "Net.ponds", defArgs mNet_ponds, defBody mNet_ponds, defScope mNet_ponds, [], []⟩
def d_brim : He.DefD := ⟨("Net", some "brim"), "brim", "Net.brim", defArgs mNet_brim, defBody mNet_brim, defScope mNet_brim, [], []⟩
def d_ins : He.DefD := ⟨("Net", some "ins"), "ins", "Net.ins", defArgs mNet_ins, defBody mNet_ins, defScope mNet_ins, [], []⟩
def d_brims : He.DefD := ⟨("Net", some "brims"), "brims", "Net.brims", defArgs mNet_brims, defBody mNet_brims, defScope mNet_brims, [], []⟩
def d_pipes : He.DefD := ⟨("Net", some "pipes"), "pipes", "Net.pipes", defArgs mNet_pipes, defBody mNet_pipes, defScope mNet_pipes, [], []⟩
def d_snet : He.DefD := ⟨("Stand", some "net"), "net", "Stand.net", defArgs mStand_net, defBody mStand_net, defScope mStand_net, [], []⟩
def d_water : He.DefD := ⟨("Stand", some "water"), "water", "Stand.water", defArgs mStand_water, defBody mStand_water, defScope mStand_water, [], []⟩
def d_pours : He.DefD := ⟨("Stand", some "pours"), "pours", "Stand.pours", defArgs mStand_pours, defBody mStand_pours, defScope mStand_pours, [], []⟩
def d_counts : He.DefD := ⟨("Stand", some "counts"), "counts", "Stand.counts", defArgs mStand_counts, defBody mStand_counts, defScope mStand_counts, [], []⟩
def d_width : He.DefD := ⟨("Net", some "width"), "width", "Net.width", defArgs mNet_width, defBody mNet_width, defScope mNet_width, [], []⟩
def d_nI : He.DefD := ⟨("Net", some "__init__"), "__init__", "Net.__init__", defArgs mNet_init, defBody mNet_init, defScope mNet_init, [.non], []⟩
def d_sI : He.DefD := ⟨("Stand", some "__init__"), "__init__", "Stand.__init__", defArgs mStand_init, defBody mStand_init, defScope mStand_init, [.non, .non], []⟩
def fnAll : List He.DefD := [d_whole, d_name, d_meas, d_pondOf, d_pairOf, d_goes, d_comes, d_steps, d_pOut, d_pIn, d_ckPonds, d_ckPipes, d_ckSides, d_ckWays, d_wrong, d_forAll, d_pot, d_draw, d_lname, d_balRow, d_solved, d_still, d_least, d_lout, d_lin, d_closed, d_lnet, d_lpoured, d_gcd, d_frac, d_shares, d_ldiv, d_isShare, d_hold, d_refused, d_bad, d_law, d_has, d_chk, d_ponds, d_brim, d_ins, d_brims, d_pipes, d_snet, d_water, d_pours, d_counts, d_width, d_nI, d_sI]
def faAll : List He.Fa := [.glo "is_whole", .glo "is_name", .glo "is_measure", .glo "is_pond_of", .glo "is_pair_of", .glo "goes_out", .glo "comes_in", .glo "steps_out", .glo "pipes_out", .glo "pipes_in", .glo "check_ponds", .glo "check_pipes", .glo "check_sides", .glo "check_ways", .glo "wrong_keys", .glo "for_all_ponds", .glo "_law_pot", .glo "_law_draw", .glo "_law_name", .glo "balance_row", .glo "solved_for", .glo "still_over", .glo "least_tops", .glo "_law_out", .glo "_law_in", .glo "_law_closed", .glo "_law_net", .glo "_law_poured", .glo "common_divisor", .glo "fraction", .glo "shares", .glo "_law_divisor", .glo "_law_is_share", .glo "_law_hold", .glo "_law_refused", .glo "_law_bad", .glo "law", .meth "Net" "has_pond", .meth "Net" "check_pond", .meth "Net" "ponds", .meth "Net" "brim", .meth "Net" "ins", .meth "Net" "brims", .meth "Net" "pipes", .meth "Stand" "net", .meth "Stand" "water", .meth "Stand" "pours", .meth "Stand" "counts", .meth "Net" "width", .mkr "Net", .mkr "Stand", .cls "Net", .noat "Net" "brim_by_pond", .noat "Net" "width_by_pair", .noat "Net" "outs_by_pond", .noat "Net" "ins_by_pond", .glo "Net", .cls "Stand", .noat "Stand" "own_net", .noat "Stand" "poured_by_pond", .noat "Stand" "count_by_pond", .glo "Stand", .glo "BadPoured", .glo "BadCount", .glo "WaterError", .glo "StandError", .glo "NetError", .free "isinstance", .free "int", .free "bool", .free "str", .free "len", .free "all", .free "tuple", .free "sum", .free "sorted", .free "dict", .free "list", .free "divmod", .free "max", .free "abs", .free "range", .free "min", .free "repr", .free "ValueError", .free "zip", .free "enumerate", .free "super", .int "MOST_LETTERS" 8, .str "LETTERS" abc, .int "MOST_BRIM" 60, .int "MOST_PONDS" 12]
def exAll (K : PySem.W.Frag) : Bool := Rl.xiB K (He.ga K "BadPoured") (He.ma K (He.ga K "BadPoured") "__init__") PySem.Challenge.pw_backwater_k34_shares_hold.main.file "BadPoured.__init__" && (Rl.xiB K (He.ga K "BadCount") (He.ma K (He.ga K "BadCount") "__init__") PySem.Challenge.pw_backwater_k34_shares_hold.main.file "BadCount.__init__" && ((List.lookup sysModules K).isSome && (decide (PySem.W.findIn K (.ref (He.ga K "BadPoured")) "name" = some none) && (decide (PySem.W.findIn K (.ref (He.ga K "BadCount")) "name" = some none) && (Rl.xcB K (He.ga K "BadPoured") && (decide (PySem.W.kitOne K (.ref (He.ga K "BadPoured")) (.ref (He.ga K "BadPoured")) = some true) && (decide (PySem.W.kitOne K (.ref (He.ga K "BadPoured")) (.ref (He.ga K "StandError")) = some true) && (decide (PySem.W.kitOne K (.ref (He.ga K "BadPoured")) (.type "ValueError") = some true) && (decide (PySem.W.kitOne K (.ref (He.ga K "BadPoured")) (.ref (He.ga K "BadCount")) = some false) && (decide (PySem.W.kitOne K (.ref (He.ga K "BadPoured")) (.ref (He.ga K "NetError")) = some false) && (decide (PySem.W.exmOne K (.ref (He.ga K "BadPoured")) (.ref (He.ga K "WaterError")) = some true) && (true))))))))))))
def looseAll : List Str := (["_wall", "WaterError", "NetError", "StandError", "NoNet", "BadName", "TooMany", "BadBrim", "BadPipe", "TooWide", "Closed", "NoPond", "BadPoured", "BadCount", "PART_FIGURES", "PART", "is_whole", "figures", "wrong_keys", "for_all_ponds", "shown", "Stand", "common_divisor", "fraction", "balance_row", "solved_for", "still_over", "least_tops", "shares", "MOST_PONDS"] : List Str) ++ (["MOST_BRIM", "MOST_LETTERS", "LETTERS", "is_name", "is_measure", "is_pond_of", "is_pair_of", "goes_out", "comes_in", "pipes_out", "pipes_in", "steps_out", "check_ponds", "check_pipes", "check_sides", "check_ways", "Net", "_law_pot", "_law_draw", "_law_name", "_law_out", "_law_in", "_law_closed", "_law_net", "_law_poured", "_law_divisor", "_law_is_share", "_law_hold", "_law_refused", "_law_bad"] : List Str)
def xiAll (K : PySem.W.Frag) : List Rl.XW := [Rl.xiW K "BadPoured", Rl.xiW K "BadCount"]
def xiVals : List Rl.XW := [Rl.xiV xBadPoured "BadPoured.__init__", Rl.xiV xBadCount "BadCount.__init__"]
abbrev AlN : Type := He.AlD × Bool × List Rl.XW
def obsN (g : Addr → Option Obj) : AlN := (He.obsD faAll fnAll (He.frG g (asN g)), exAll (He.frG g (asN g)), xiAll (He.frG g (asN g)))
def hookN : PySem.W.Hook where
  α := AlN
  obs := fun s => obsN s.heap.get?
  val := fun _ => (He.valD fnAll, true, xiVals)
  says := fun _ h => ∃ K : PySem.W.Frag, K.In h ∧ He.SaysD faAll fnAll K ∧ exAll K = true ∧ xiAll K = xiVals
  of := fun _ _ e => ⟨_, He.frG_in, congrArg (fun z : AlN => z.1) e, congrArg (fun z : AlN => z.2.1) e, congrArg (fun z : AlN => z.2.2) e⟩
  keeps := fun _ _ _ ⟨K, hK, c⟩ k => ⟨K, PySem.W.Frag.In.keeps hK k, c⟩
def obN (s : PySem.W.SharedT) : AlN := obsN (HandSHeadRun.getT s)
theorem obN_eq (s : PySem.W.SharedT) : obN s = hookN.obs s.abs := by
  have e : HandSHeadRun.getT s = s.abs.heap.get? := funext (HandSHeadRun.getT_eq s)
  show obsN (HandSHeadRun.getT s) = obsN s.abs.heap.get?
  rw [e]
abbrev RowR : PySem.W.OpenRow := PySem.W.OpenLaw.row PySem.Challenge.rw_backwater_k34_shares_hold
theorem run (w : World) : HandSHeadRun.RunEq RowR (PySem.W.view RowR.prog [66]) hookN obN 12000 looseAll w := by
  intro os
  kernel_rfl
end Nl
end
section
set_option maxHeartbeats 4000000
namespace Rl
open PySem PySem.Spec PyProof.Rows L2
/-! ### promises where nothing is being shown: what repr of lists wants -/
/-- a def's promise, called where no repr is under way -/
structure FnG (P : Program) (w : World) (K : PySem.W.Frag) (mg : Str → Option Value) (base : Heap) (CX : CXT) (k : Nat) (f : Addr) (fd : FuncData) (ps : List Str) (sp : Sp) : Prop where
  len : ∀ vs H Q E, sp vs H Q E → vs.length = ps.length
  run : ∀ (A : Around) (outer : List Env) (s : Shared) (H : Hp) (args : Args) (us : List Value) (vs : List V) (Q : VK) (E : XK), A.guards = some [] → Room k A → Env0 P w K mg base A outer s H → BindsTo s fd args (ps.zip us) → Vals vs us → sp vs H Q E →
    codeAny (model P w) A (.call (.ref f) args) (CR CX outer P w H s Q E) s
section
variable {P : Program} {w : World} {K : PySem.W.Frag} {mg : Str → Option Value} {base : Heap} {CX : CXT} {k : Nat} {f : Addr} {fd : FuncData} {ps N : List Str} {sp : Sp}
theorem FnG.of (F : FnOk P w K mg base CX k f fd ps sp) : FnG P w K mg base CX k f fd ps sp := ⟨F.len, fun A outer s H args us vs Q E _ => F.run A outer s H args us vs Q E⟩
/-- a def by its body -/
theorem okG {x qual : Str} {st : Stmt} (F : Fun K x qual st f fd) (S : FnScope N ps (defScope st)) (len : ∀ vs H Q E, sp vs H Q E → vs.length = ps.length)
    (hbody : ∀ (cdv : Value) (A : Around) (outer : List Env) (s : Shared) (H : Hp) (vs : List V) (Q : VK) (E : XK), A.guards = some [] → Room k (A.deeper (envOfC qual (defScope st) s.heap.objs.size f cdv)) → sp vs H Q E →
      ∃ t, PSs (cxOf CX0 P w K mg base N qual (defScope st) f cdv A outer s H E).nox (defBody st) t ∧ t { nx := fun _ H' => Q .non H', rt := Q } (start N vs) H) : FnG P w K mg base CX0 (k + 1) f fd ps sp := by
  obtain ⟨oc, od, kV, doc, pm, an, cdv, ct, osl, rfl, lk, hcd⟩ := F.ex
  refine ⟨len, fun A outer s H args us vs Q E hg hr e0 hb r hsp => ?_⟩
  have KI : K.In s.heap := e0.mod.kin.keeps fun b o z => (e0.bs b o z).1
  have par : ∀ y ∈ ps.zip us, (defScope st).names.lookup y.1 = some .local ∨ ((defScope st).names.lookup y.1 = some .cell ∧ ((cellsFrom (s.heap.objs.size + 1) (defScope st).names []).lookup y.1).isSome = true) := fun ⟨n, v⟩ hy =>
    (S.par n (List.of_mem_zip hy).1).imp id fun q => ⟨q, PySem.W.cellsFrom_some _ _ _ (.inl q)⟩
  refine codeAny_call_function hr.depth (KI _ _ lk) rfl S.co S.gen rfl (PySem.W.codeRec_of KI hcd) (hb _ _ _ _ (wpAny_newFunctionEnv_cells S.kind par fun env he s1 z => ?_))
  subst he
  refine ⟨(e0.mod.nolimit.keeps fun b o z => (e0.bs b o z).1).keeps z.toInCall.keep, codeAny_func ?_⟩
  obtain ⟨t, ht, hq⟩ := hbody cdv A outer s H vs Q E hg (hr.deeper _) hsp
  have I : Inv (cxOf CX0 P w K mg base N qual (defScope st) f cdv A outer s H E) [] (start N vs) H s1 := inv_start S hr.hd e0 (len _ _ _ _ hsp) r z
  refine wpAny_mono (ht.nox.run [] s1 (start N vs) H _ I hq) (fun fl s' hs => ?_) fun e s' hs => hs
  cases fl with
  | ret u =>
    obtain ⟨v, σ', H', J, rv, q⟩ := hs
    exact ⟨v, H', J.os, J.bare, J.base, J.hok, rv, q⟩
  | next =>
    obtain ⟨σ', H', J, q⟩ := hs
    exact ⟨.non, H', J.os, J.bare, J.base, J.hok, rfl, q⟩
  | brk =>
    obtain ⟨_, _, _, z⟩ := hs
    exact False.elim z
  | cont =>
    obtain ⟨_, _, _, z⟩ := hs
    exact False.elim z
end
section
variable {X : Cx} {CX : CXT} {k : Nat} {f : Addr} {fd : FuncData} {ps : List Str} {sp : Sp} {dvs : List V} {ds : List Value} {E : XK} {x : Str} {p pos : Pos} {e : Expr} {es : List Expr} {t : TA}
/-- f(e, ..) -/
theorem pe_callG (F : FnG X.prog X.w X.K X.mg X.base CX k f fd ps sp) (hg : X.A.guards = some []) (hr : Room k X.A) (gl : Gl X x) (hm : X.mg x = some (.ref f)) (hk : PySem.W.keepIn X.K (.ref f) = true) (hb : Binds X.K fd ps ds) (hd : Vals dvs ds) (hx : Passes CX X E)
    (ha : PA X (e :: es) t) (hdb : (x == ("__debug__" : Str)) = false := by decide) (he : starEach (e :: es) X.env = (false, eval e X.env) :: starEach es X.env := by rfl) (hpl : (backTo pos (starEach es X.env)).any (·.1) = false := by rfl) :
    PE X (.Call (.Name x p) (e :: es) [] pos) (tCall sp dvs E t) := by
  refine ⟨fun pins s σ H Q I h => wpAny_Call_Name_kw (ld_glob I gl hm (PySem.W.callWith_K (h₀ := X.base) I.ok.mod.kin hk (thn (ha.run pos pins s σ H _ I h) fun us s1 ⟨vs, H1, J, r, q⟩ => ⟨J.kIn, ?_⟩) he hpl) hdb)⟩
  have r2 : Vals (vs ++ dvs) (us ++ ds) := r.append hd
  have hl : (us ++ ds).length = ps.length := r2.length.symm.trans (F.len _ _ _ _ q)
  refine wpAny_call (codeAny_mono (F.run X.A X.stack s1 H1 ⟨us, []⟩ (us ++ ds) (vs ++ dvs) Q E hg hr J.env0 (hb s1 us J.kIn hl) r2 q) fun o s' hq => ?_)
  cases o with
  | error er => exact hx pins σ H1 s1 er s' J hq
  | ok fl =>
    cases fl with
    | ret u => exact J.after hq
    | _ => exact False.elim hq
/-- repr of lists and tuples, of texts, numbers, .. -/
def rRepr (K : PySem.W.Frag) : List V → Hp → VK → Prop := fun xs H Q => ∃ (a : Addr) (d : PyData), xs = [.ref a] ∧ Dp K H (.ref a) d ∧ d.showable = true ∧ d.hasDict = false ∧ d.depth ≤ 60 ∧ d.shown.length ≤ sizeLine ∧ Q (.str d.shown) H
theorem call_reprG (hg : X.A.guards = some []) (hu : X.A.units + 64 < cLine) : CallR X (.builtin "repr") (rRepr X.K) := by
  intro pins s σ H xs us Q I r h
  obtain ⟨a, d, rfl, hd, hs, nd, dp, hz, q⟩ := h
  cases r with
  | cons r1 rn =>
    cases rn
    cases r1
    obtain ⟨as, rd⟩ := Dp.reads I d _ _ hd rfl
    exact repr_of_reads' rd hs (fun z => by rw [nd] at z; cases z) hg (by omega) (fun _ _ z => z) (fun h' u tk kk => ⟨.str d.shown, H, I.kept kk, ⟨_, rfl⟩, q⟩) hz
end
/-- the law, called -/
theorem law_callG {P : Program} {w : World} {K : PySem.W.Frag} {mg mb : Str → Option Value} {CX : CXT} {k : Nat} {fa a : Addr} {fd : FuncData} {x : Str} {sp : Sp} {s₁ : Shared} {vs : List Value} {ns : List Int}
    (KX : K.In s₁.heap) (hns : s₁.heap.Ns mainGlobals mg) (hb : s₁.heap.Ns builtinsNs mb) (hbb : ∀ y : Str, y ≠ "__name__" → mb y = bootBuiltins y) (hlim : s₁.heap.NoLimit) (hgen : s₁.gens = #[])
    (ha : s₁.heap.get? a = some { cls := .type "list", data := .seq vs.toArray }) (hi : IntsAre vs ns) (hl : ns.length ≤ sizeLine) (hr : Room k callerA)
    (F : ∀ base : Heap, K.In base → base.Ns mainGlobals mg → FnG P w K mg base CX k fa fd [x] sp) (hbind : ∀ (s : Shared) (u : Value), BindsTo s fd ⟨[u], []⟩ [(x, u)])
    (hsp : ∀ H : Hp, Only H → SqL K H a (ns.map V.int) → sp [.ref a] H (fun v _ => v = .bl true) fun _ _ _ => False) (hCX : ∀ H e s', CX [] H s₁ (fun _ _ _ => False) e s' → False) :
    codeAny (model P w) callerA (.call (.ref fa) ⟨[.ref a], []⟩) (fun r s' => r = .ok (.ret (.bool true)) ∧ OldK s₁.heap s'.heap ∧ s'.os = s₁.os ∧ AllBare s'.gens) s₁ := by
  have rv := vals_ints hi
  have core : ∀ H : Hp, Only H → SqL K H a (ns.map V.int) → HOk P w H s₁.heap → (∀ b, H b ≠ none → b = a ∧ K.lookup a = none) →
      codeAny (model P w) callerA (.call (.ref fa) ⟨[.ref a], []⟩) (fun r s' => r = .ok (.ret (.bool true)) ∧ OldK s₁.heap s'.heap ∧ s'.os = s₁.os ∧ AllBare s'.gens) s₁ := fun H hO hS hok only => by
    have noD : ∀ {b : Addr} {o : Obj} {es : Array DictEntry} {ep : Nat}, s₁.heap.get? b = some o → o.data = .dict es ep → H b = none := fun {b o es ep} z d => by
      cases q : H b with
      | none => rfl
      | some u =>
        have eb := (only b (by rw [q]; simp)).1
        rw [eb, ha] at z
        cases z
        have d' : Data.seq vs.toArray _ = Data.dict es ep := d
        cases d'
    have nsK : ∀ {b : Addr} {m : Str → Option Value}, s₁.heap.Ns b m → (hidT s₁.heap H).Ns b m := fun {b m} ⟨o, es, ep, z, d, r⟩ => ⟨o, es, ep, hidT_get z (noD z d), d, r⟩
    have kb : K.In (hidT s₁.heap H) := fun b o z => hidT_get (KX b o z) (by
      cases q : H b with
      | none => rfl
      | some u =>
        obtain ⟨eb, nk⟩ := only b (by rw [q]; simp)
        rw [eb, nk] at z
        cases z)
    have e0 : Env0 P w K mg (hidT s₁.heap H) callerA [] s₁ H := ⟨rfl, ⟨kb, nsK hns, ⟨mb, nsK hb, hbb⟩, let ⟨mc, h1, h2⟩ := hlim; ⟨mc, nsK h1, h2⟩⟩, fun b o z => of_hidT z, Nat.le_of_eq (hidT_size _ _), trivial, fun b z => absurd (show b ∈ ([] : List Addr) from z) (by simp), hok, .of_eq hgen⟩
    refine codeAny_mono ((F _ kb (nsK hns)).run callerA [] s₁ H ⟨[.ref a], []⟩ [.ref a] [.ref a] _ _ rfl hr e0 (hbind s₁ (.ref a)) (.cons rfl .nil) (hsp H hO hS)) fun r s' h => ?_
    cases r with
    | error e => exact (hCX H e s' h).elim
    | ok fl =>
      cases fl with
      | ret u =>
        obtain ⟨v, H', os, bare, un, hok', r', q⟩ := h
        cases (show v = .bl true from q)
        cases (show u = Value.bool true from r')
        refine ⟨rfl, OldK.of_keep fun b o z => ?_, os, bare⟩
        cases q : H b with
        | none => exact un.keep b o z q (fun y => absurd (show b ∈ ([] : List Addr) from y) (by simp)) (by simp)
        | some u =>
          rcases hO b with y | ⟨ob, xs, y⟩
          · rw [q] at y; cases y
          · obtain ⟨h1, _⟩ := hok b _ y
            obtain ⟨h2, _⟩ := hok' b _ (un.frzs b ob _ y)
            rw [z] at h1
            cases h1
            exact h2
      | _ => exact False.elim h
  cases hk : K.lookup a with
  | some o =>
    have z := KX a o hk
    rw [ha] at z
    cases z
    exact core (fun _ => none) (fun _ => .inl rfl) (.inr ⟨_, vs.toArray, _, hk, rfl, rfl, rfl, by rw [List.size_toArray, hi.length]; exact hl, by simpa using rv⟩) (fun b u z => nomatch (show (none : Option HO) = some u from z)) fun b z => absurd rfl z
  | none =>
    refine core (fun b => if b = a then some (.frz { cls := .type "list", data := .seq vs.toArray } (.lst (ns.map V.int))) else none) (fun b => ?_) (.inl (.inr ⟨{ cls := .type "list", data := .seq vs.toArray }, if_pos rfl⟩)) (fun b u z => ?_) fun b z => ?_
    · by_cases h : b = a
      · exact .inr ⟨_, _, if_pos h⟩
      · exact .inl (if_neg h)
    · by_cases h : b = a
      · have z' := (if_pos h).symm.trans z
        cases z'
        subst h
        exact ⟨ha, by rw [List.length_map]; exact hl, vs, _, rv, ha⟩
      · cases (if_neg h).symm.trans z
    · by_cases h : b = a
      · exact ⟨h, hk⟩
      · exact absurd (if_neg h) z
theorem walk_ofG {l : PySem.W.OpenLaw} {n k : Nat} {q : Program} {loose : List Str} {XP : (Str → Option Value) → Heap → Prop} {YP : World → Heap → Prop} {d : DefRec} {CX : CXT} {x : Str}
    (hn : l.most = some n) (hn2 : n ≤ sizeLine) (hdf : d.params.defaults = []) (hr : Room k callerA)
    (F : ∀ (w : World) (mg : Str → Option Value) (fa : Addr) (h : Heap), YP w h → h.Ns mainGlobals mg → mg d.name = some (.ref fa) →
      ∃ (K : PySem.W.Frag) (fd : FuncData) (sp : Sp), K.In h ∧ (∀ (s : Shared) (u : Value), BindsTo s fd ⟨[u], []⟩ [(x, u)]) ∧
        (∀ (H : Hp) (a : Addr) (ns : List Int), ns.length ≤ n → Only H → SqL K H a (ns.map V.int) → sp [.ref a] H (fun v _ => v = .bl true) fun _ _ _ => False) ∧
        ∀ base : Heap, K.In base → base.Ns mainGlobals mg → FnG l.prog w K mg base CX k fa fd [x] sp)
    (hCX : ∀ (H : Hp) (s : Shared) (e : Value) (s' : Shared), CX [] H s (fun _ _ _ => False) e s' → False) : PySem.W.WalkO q loose XP YP l.row.toRowW d [] (fun f vs => PySem.call f vs) :=
  Att.attach_call hn hdf fun w s₀ s₁ mg mb fa o pm cd doc a vs ns G Y ho hd hcd hmg hobj hints hlen hg => by
    obtain ⟨K, fd, sp, KX, hb, hsp, hF⟩ := F w mg fa _ Y G.T.g hmg
    exact law_callG KX G.T.g G.T.b G.T.builtins G.T.nolimit hg hobj hints (Nat.le_trans hlen hn2) hr hF hb (fun H hO hS => hsp H a ns hlen hO hS) fun H e s' => hCX H s₁ e s'
end Rl
end
section
set_option maxHeartbeats 4000000
namespace Nl
open PySem PySem.Spec PyProof.Rows L2 Nt
section
variable {P : Program} {w : World} {K : PySem.W.Frag} {mg : Str → Option Value} {base : Heap} {CX : CXT} {k : Nat} {f : Addr} {fd : FuncData} {ps : List Str} {sp sp1 sp2 : Sp}
/-- either of two promises -/
theorem fnokOr (F1 : FnOk P w K mg base CX k f fd ps sp1) (F2 : FnOk P w K mg base CX k f fd ps sp2) : FnOk P w K mg base CX k f fd ps (fun vs H Q E => sp1 vs H Q E ∨ sp2 vs H Q E) :=
  ⟨fun vs H Q E h => h.elim (F1.len vs H Q E) (F2.len vs H Q E), fun A outer s H args us vs Q E hr e0 hb r h => h.elim (F1.run A outer s H args us vs Q E hr e0 hb r) (F2.run A outer s H args us vs Q E hr e0 hb r)⟩
/-- what never raises may stand where a raise is let -/
theorem fnokCx (F : FnOk P w K mg base CX0 k f fd ps sp) : FnOk P w K mg base CX k f fd ps sp :=
  ⟨F.len, fun A outer s H args us vs Q E hr e0 hb r h => codeAny_mono (F.run A outer s H args us vs Q E hr e0 hb r h) fun o s' q => by
    cases o with
    | error e => exact False.elim q
    | ok fl => cases fl <;> exact q⟩
end
end Nl
end
section
namespace Nl
open PySem PySem.Spec PyProof.Rows L2 Nt
theorem Rd.same {H H' : Hp} {a : Addr} {u : HO} (h : Rd H a u) (s : Same H H') : Rd H' a u := by
  rcases h with h | ⟨o, h⟩
  · exact .inl (s _ _ h)
  · exact .inr ⟨o, s _ _ h⟩
theorem getB_isSome (B : Br) (x : Str) : ((getB B x).map V.int).isSome = decide (x ∈ nms B) := by
  by_cases h : x ∈ nms B
  · obtain ⟨b, e⟩ := getB_some h
    rw [e, decide_eq_true h]; rfl
  · rw [getB_none h, decide_eq_false h]; rfl
section
variable {P : Program} {w : World} {K : PySem.W.Frag} {mg : Str → Option Value} {base : Heap}
theorem scPondOf : FnScope ["brims", "thing"] ["brims", "thing"] (defScope sPondOf) := ⟨rfl, rfl, rfl, by decide +kernel, rfl, by decide +kernel, by decide +kernel⟩
def spPondOf : Sp := fun vs H Q _ => ∃ (a : Addr) (B : Br) (z : Str), vs = [.ref a, .str z] ∧ Rd H a (.dK (bk B)) ∧ Sm 25 z ∧ ∀ H', Same H H' → Q (.bl (nameB z && decide (z ∈ nms B))) H'
theorem ok_pondOf {f fN : Addr} {fd fdN : FuncData} (F : Fun K "is_pond_of" "is_pond_of" sPondOf f fd) (FN : Fun K "is_name" "is_name" sName fN fdN) (GN : FnOk P w K mg base CX0 1 fN fdN ["thing"] spName) (bN : Binds K fdN ["thing"] []) (gN : mg "is_name" = some (.ref fN)) :
    FnOk P w K mg base CX0 2 f fd ["brims", "thing"] spPondOf := by
  refine F.ok scPondOf (fun vs H Q E h => ?_) (fun cdv A outer s H vs Q E hr h => ?_)
  · obtain ⟨a, B, z, rfl, _⟩ := h
    rfl
  · obtain ⟨a, B, z, rfl, hA, hz, q⟩ := h
    refine ⟨_, pss_one (ps_ret (pe_and (pe_call GN hr (by rfl) gN FN.kp bN .nil pass0 (pa_cons (pv 1) pa_nil)) (pe_one (pe_cmp (pc_din (hu_of hr) (pv 1) (pv 0)) rfl)))), ?_⟩
    refine ⟨.str z, rfl, z, rfl, hz, fun H1 s1 => ⟨nameB z, rfl, ite2 (fun e => ?_) (fun e => ?_)⟩⟩
    · refine ⟨.str z, rfl, .ref a, rfl, a, _, rfl, .inl ⟨_, Sum.inr z, Rd.same hA s1, rfl, rfl⟩, ?_⟩
      rw [valV_bk, getB_isSome]
      have := q H1 s1
      rw [e] at this
      exact this
    · have := q H1 s1
      rw [Bool.not_eq_true] at e
      rw [e] at this
      exact this
theorem scPairOf : FnScope ["brims", "thing"] ["brims", "thing"] (defScope sPairOf) := ⟨rfl, rfl, rfl, by decide +kernel, rfl, by decide +kernel, by decide +kernel⟩
def spPairOf : Sp := fun vs H Q _ => ∃ (a t : Addr) (B : Br) (x y : Str), vs = [.ref a, .ref t] ∧ Rd H a (.dK (bk B)) ∧ H t = some (.tup [.str x, .str y]) ∧ Nm x ∧ Nm y ∧ x ∈ nms B ∧ y ∈ nms B ∧ x ≠ y ∧ ∀ H', Same H H' → Q (.bl true) H'
theorem ok_pairOf {f fN : Addr} {fd fdN : FuncData} (F : Fun K "is_pair_of" "is_pair_of" sPairOf f fd) (FN : Fun K "is_pond_of" "is_pond_of" sPondOf fN fdN) (GN : FnOk P w K mg base CX0 2 fN fdN ["brims", "thing"] spPondOf) (bN : Binds K fdN ["brims", "thing"] []) (gN : mg "is_pond_of" = some (.ref fN))
    (mi : mg "isinstance" = none) (mt : mg "tuple" = none) (ml : mg "len" = none) : FnOk P w K mg base CX0 3 f fd ["brims", "thing"] spPairOf := by
  refine F.ok scPairOf (fun vs H Q E h => ?_) (fun cdv A outer s H vs Q E hr h => ?_)
  · obtain ⟨a, t, B, x, y, rfl, _⟩ := h
    rfl
  · obtain ⟨a, t, B, x, y, rfl, hA, hT, nx, ny, mx, my, ne, q⟩ := h
    refine ⟨_, pss_cons (ps_if (PW.pt (pw_or (pt_not (pt_val (pe_callB call_isi (by rfl) mi (by decide +kernel) (pa_cons (pv 1) (pa_cons (pe_bltn (v := .ty "tuple") (by rfl) mt (by decide +kernel) rfl) pa_nil)))))
        (pw_or1 (pt_cmpR op_ne (pe_callB call_len_seq (by rfl) ml PySem.boot_len (pa_cons (pv 1) pa_nil)) pe_int (nomark _))))) (pss_one (ps_ret pe_bl)) pss_nil)
      (pss_one (ps_ret (pe_and (pe_call GN hr (by rfl) gN FN.kp bN .nil pass0 (pa_cons (pv 0) (pa_cons (pe_ix ix_tup (pv 1) pe_int (fun _ _ => rfl)) pa_nil)))
        (pe_and (pe_call GN hr (by rfl) gN FN.kp bN .nil pass0 (pa_cons (pv 0) (pa_cons (pe_ix ix_tup (pv 1) pe_int (fun _ _ => rfl)) pa_nil)))
          (pe_one (pe_cmpR op_ne (pe_ix ix_tup (pv 1) pe_int (fun _ _ => rfl)) (pe_ix ix_tup (pv 1) pe_int (fun _ _ => rfl)) (nomark _))))))), ?_⟩
    have i0 : atI [V.str x, V.str y] 0 = some (.str x) := atI_nat (j := 0) rfl
    have i1 : atI [V.str x, V.str y] 1 = some (.str y) := atI_nat (j := 1) rfl
    refine ⟨.ref t, rfl, .ref t, .ty "tuple", .type "tuple", .type "tuple", true, rfl, .ty _, .base (.tup hT), kit_ty (by decide +kernel), true, rfl, iteF ?_⟩
    refine ⟨.ref t, rfl, t, _, rfl, .inr (SqT.of hT), rfl, _, rfl, iteNS rfl ?_⟩
    refine ⟨.ref a, rfl, .ref t, rfl, t, _, 0, _, rfl, rfl, SqT.of hT, i0, a, B, x, rfl, hA, nx.sm.mono (by decide), fun H1 s1 => ?_⟩
    rw [show nameB x = true from nx, decide_eq_true mx]
    refine ⟨true, rfl, iteT ?_⟩
    refine ⟨.ref a, rfl, .ref t, rfl, t, _, 1, _, rfl, rfl, SqT.of (s1 _ _ hT), i1, a, B, y, rfl, Rd.same hA s1, ny.sm.mono (by decide), fun H2 s2 => ?_⟩
    rw [show nameB y = true from ny, decide_eq_true my]
    refine ⟨true, rfl, iteT ?_⟩
    refine ⟨.ref t, rfl, t, _, 0, _, rfl, rfl, SqT.of (s2 _ _ (s1 _ _ hT)), i0, .ref t, rfl, t, _, 1, _, rfl, rfl, SqT.of (s2 _ _ (s1 _ _ hT)), i1, rfl, ?_⟩
    rw [decStr, decide_eq_false ne]
    exact q H2 (s1.trans s2)
/-! ### goes_out, comes_in -/
theorem scGoes : FnScope ["pipes", "name", "pair"] ["pipes", "name"] (defScope sGoes) := ⟨rfl, rfl, rfl, by decide +kernel, rfl, by decide +kernel, by decide +kernel⟩
def spGoes : Sp := fun vs H Q _ => ∃ (a : Addr) (Pp : Pi) (z : Str), vs = [.ref a, .str z] ∧ H a = some (.dT (pt Pp)) ∧ (Pp.map Prod.fst).Nodup ∧ Pp.length ≤ 200 ∧ ∀ H', Same H H' → Q (.int (outW Pp z)) H'
def spComes : Sp := fun vs H Q _ => ∃ (a : Addr) (Pp : Pi) (z : Str), vs = [.ref a, .str z] ∧ H a = some (.dT (pt Pp)) ∧ (Pp.map Prod.fst).Nodup ∧ Pp.length ≤ 200 ∧ ∀ H', Same H H' → Q (.int (inW Pp z)) H'
theorem pt_at {Pp : Pi} {i : Nat} {k : List Key} {v : V} (h : (pt Pp)[i]? = some (k, v)) : ∃ p, Pp[i]? = some p ∧ k = Rl.pk p.1 ∧ v = .int p.2 := by
  unfold pt at h
  rw [List.getElem?_map] at h
  cases e : Pp[i]? with
  | none => rw [e] at h; cases h
  | some p =>
    rw [e] at h
    have := Option.some.inj h
    injection this with h1 h2
    exact ⟨p, rfl, h1.symm, h2.symm⟩
theorem ok_goes {f : Addr} {fd : FuncData} {k : Nat} (F : Fun K "goes_out" "goes_out" sGoes f fd) (ms : mg "sum" = none) : FnOk P w K mg base CX0 (k + 1) f fd ["pipes", "name"] spGoes := by
  refine F.ok scGoes (fun vs H Q E h => ?_) (fun cdv A outer s H vs Q E hr h => ?_)
  · obtain ⟨a, Pp, z, rfl, _⟩ := h
    rfl
  · obtain ⟨a, Pp, z, rfl, hA, nd, hl, q⟩ := h
    refine ⟨_, pss_one (ps_ret (pe_callB (cr_sum rfl) (by rfl) ms (by decide +kernel) (pa_cons (pe_lock (pe_lc (own := [("pair", 2)]) (g := gName 2) (tt := tTest (tOp rEq (tOp (rIxT K) (tVar 2) (tC (.int 0))) (tVar 1))) rfl scGoes.nd (pi_keys (pv 0))
      (blkOk_by (N := ["pipes", "name", "pair"]) (sc := defScope sGoes) (by decide +kernel)) (fun _ _ _ _ _ => pg_name (i := 2) scGoes.nd rfl (Or.inl rfl))
      (fun _ _ _ _ _ => pts_one (pt_cmpR op_eq (pe_ix ix_tup (pv 2) pe_int (fun _ _ => rfl)) (pv 1) (nomark _))) (fun _ _ _ _ _ => pe_dget (hu_of hr) (pv 0) (pv 2) (fun _ _ => rfl)))) pa_nil))), ?_⟩
    refine ⟨a, _, hA, trivial, fun od => ?_⟩
    refine ⟨.ref a, rfl, a, od, rfl, .inr ⟨_, upd_same, fun D nD => ?_⟩⟩
    have hD0 : D ≠ a := fun e => by subst e; rw [upd_same] at nD; cases nD
    refine lc_it (n := (pt Pp).length) walk_keysT (fun i H1 => H1 D = some (.lst ((((Pp.take i).filter fun p => decide (p.1.1 = z)).map (·.2)).map V.int)) ∧ Same (upd H a (.frz od (.dT (pt Pp)))) H1) ⟨upd_same, same_new nD⟩ (fun i H1 _ h => h.2 a _ upd_same) ?_ ?_
    · rintro i x H1 H2 hi ⟨hD, sm⟩ ⟨rfl, kk, v, qq, hkv, rfl, hq⟩
      obtain ⟨p, hp, rfl, rfl⟩ := pt_at hkv
      have hm : p ∈ Pp := List.mem_of_getElem? hp
      refine ⟨rfl, .ref qq, rfl, qq, _, 0, .str p.1.1, rfl, rfl, SqT.of hq, atI_nat (j := 0) rfl, .str z, rfl, rfl, _, rfl, ?_⟩
      rw [decStr]
      have ln : ∀ l : Pi, l.length ≤ 200 → (((l.filter fun p => decide (p.1.1 = z)).map (·.2)).map V.int).length < sizeLine := fun l h => by
        rw [List.length_map, List.length_map]
        exact small1000 (Nat.le_trans (List.length_filter_le _ _) (by omega))
      refine ite2 (fun e => ?_) (fun e => ?_)
      · refine ⟨.ref a, rfl, .ref qq, rfl, a, .int p.2, rfl, .inr ⟨_, Rl.pk p.1, qq, .inr ⟨od, sm a _ upd_same⟩, rfl, hq, ?_⟩, _, hD, ln _ (by rw [List.length_take]; omega), ?_, ?_⟩
        · rw [valV_pt, getP_of_mem nd (show (p.1, p.2) ∈ Pp from hm)]; rfl
        · rw [upd_same, List.take_add_one, hp, List.filter_append]
          show _ = some (HO.lst (((_ ++ List.filter _ [p]).map _).map _))
          rw [List.filter_cons, if_pos e]
          simp
        · exact fun b o eb => by
            have nb : b ≠ D := ne_of_none eb nD
            rw [upd_ne nb]; exact sm b o eb
      · refine ⟨?_, sm⟩
        rw [hD, List.take_add_one, hp, List.filter_append]
        show _ = some (HO.lst (((_ ++ List.filter _ [p]).map _).map _))
        rw [List.filter_cons, if_neg e]
        simp
    · rintro H1 ⟨hD, sm⟩
      obtain ⟨l1, l2⟩ := same_lock hA sm
      refine ⟨l1, D, _, rfl, SqL.of (by rw [upd_ne hD0]; exact hD), ?_⟩
      rw [List.take_of_length_le (by unfold pt; rw [List.length_map]; exact Nat.le_refl _)]
      exact q _ l2
end
end Nl
end
section
namespace Nl
open PySem PySem.Spec PyProof.Rows L2 Nt
section
variable {P : Program} {w : World} {K : PySem.W.Frag} {mg : Str → Option Value} {base : Heap}
theorem scComes : FnScope ["pipes", "name", "pair"] ["pipes", "name"] (defScope sComes) := ⟨rfl, rfl, rfl, by decide +kernel, rfl, by decide +kernel, by decide +kernel⟩
theorem ok_comes {f : Addr} {fd : FuncData} {k : Nat} (F : Fun K "comes_in" "comes_in" sComes f fd) (ms : mg "sum" = none) : FnOk P w K mg base CX0 (k + 1) f fd ["pipes", "name"] spComes := by
  refine F.ok scComes (fun vs H Q E h => ?_) (fun cdv A outer s H vs Q E hr h => ?_)
  · obtain ⟨a, Pp, z, rfl, _⟩ := h
    rfl
  · obtain ⟨a, Pp, z, rfl, hA, nd, hl, q⟩ := h
    refine ⟨_, pss_one (ps_ret (pe_callB (cr_sum rfl) (by rfl) ms (by decide +kernel) (pa_cons (pe_lock (pe_lc (own := [("pair", 2)]) (g := gName 2) (tt := tTest (tOp rEq (tOp (rIxT K) (tVar 2) (tC (.int 1))) (tVar 1))) rfl scComes.nd (pi_keys (pv 0))
      (blkOk_by (N := ["pipes", "name", "pair"]) (sc := defScope sComes) (by decide +kernel)) (fun _ _ _ _ _ => pg_name (i := 2) scComes.nd rfl (Or.inl rfl))
      (fun _ _ _ _ _ => pts_one (pt_cmpR op_eq (pe_ix ix_tup (pv 2) pe_int (fun _ _ => rfl)) (pv 1) (nomark _))) (fun _ _ _ _ _ => pe_dget (hu_of hr) (pv 0) (pv 2) (fun _ _ => rfl)))) pa_nil))), ?_⟩
    refine ⟨a, _, hA, trivial, fun od => ?_⟩
    refine ⟨.ref a, rfl, a, od, rfl, .inr ⟨_, upd_same, fun D nD => ?_⟩⟩
    have hD0 : D ≠ a := fun e => by subst e; rw [upd_same] at nD; cases nD
    refine lc_it (n := (pt Pp).length) walk_keysT (fun i H1 => H1 D = some (.lst ((((Pp.take i).filter fun p => decide (p.1.2 = z)).map (·.2)).map V.int)) ∧ Same (upd H a (.frz od (.dT (pt Pp)))) H1) ⟨upd_same, same_new nD⟩ (fun i H1 _ h => h.2 a _ upd_same) ?_ ?_
    · rintro i x H1 H2 hi ⟨hD, sm⟩ ⟨rfl, kk, v, qq, hkv, rfl, hq⟩
      obtain ⟨p, hp, rfl, rfl⟩ := pt_at hkv
      have hm : p ∈ Pp := List.mem_of_getElem? hp
      refine ⟨rfl, .ref qq, rfl, qq, _, 1, .str p.1.2, rfl, rfl, SqT.of hq, atI_nat (j := 1) rfl, .str z, rfl, rfl, _, rfl, ?_⟩
      rw [decStr]
      have ln : ∀ l : Pi, l.length ≤ 200 → (((l.filter fun p => decide (p.1.2 = z)).map (·.2)).map V.int).length < sizeLine := fun l h => by
        rw [List.length_map, List.length_map]
        exact small1000 (Nat.le_trans (List.length_filter_le _ _) (by omega))
      refine ite2 (fun e => ?_) (fun e => ?_)
      · refine ⟨.ref a, rfl, .ref qq, rfl, a, .int p.2, rfl, .inr ⟨_, Rl.pk p.1, qq, .inr ⟨od, sm a _ upd_same⟩, rfl, hq, ?_⟩, _, hD, ln _ (by rw [List.length_take]; omega), ?_, ?_⟩
        · rw [valV_pt, getP_of_mem nd (show (p.1, p.2) ∈ Pp from hm)]; rfl
        · rw [upd_same, List.take_add_one, hp, List.filter_append]
          show _ = some (HO.lst (((_ ++ List.filter _ [p]).map _).map _))
          rw [List.filter_cons, if_pos e]
          simp
        · exact fun b o eb => by
            have nb : b ≠ D := ne_of_none eb nD
            rw [upd_ne nb]; exact sm b o eb
      · refine ⟨?_, sm⟩
        rw [hD, List.take_add_one, hp, List.filter_append]
        show _ = some (HO.lst (((_ ++ List.filter _ [p]).map _).map _))
        rw [List.filter_cons, if_neg e]
        simp
    · rintro H1 ⟨hD, sm⟩
      obtain ⟨l1, l2⟩ := same_lock hA sm
      refine ⟨l1, D, _, rfl, SqL.of (by rw [upd_ne hD0]; exact hD), ?_⟩
      rw [List.take_of_length_le (by unfold pt; rw [List.length_map]; exact Nat.le_refl _)]
      exact q _ l2
end
end Nl
end
section
set_option maxHeartbeats 1000000
namespace Nl
open PySem PySem.Spec PyProof.Rows L2 Nt
theorem inV_strs (y : Str) (l : List Str) : inV (.str y) (l.map V.str) = decide (y ∈ l) := by
  unfold inV
  induction l with
  | nil => rfl
  | cons x r ih =>
    rw [List.map_cons, List.any_cons, ih]
    show ((x == y) || decide (y ∈ r)) = decide (y ∈ x :: r)
    by_cases h : x = y
    · rw [show (x == y) = true from beq_iff_eq.mpr h, decide_eq_true (show y ∈ x :: r by rw [h]; exact List.mem_cons_self)]; rfl
    · rw [show (x == y) = false from beq_eq_false_iff_ne.mpr h]
      by_cases m : y ∈ r
      · rw [decide_eq_true m, decide_eq_true (List.mem_cons_of_mem _ m)]; rfl
      · rw [decide_eq_false m, decide_eq_false (fun z => by
          rcases List.mem_cons.mp z with e | e
          · exact h e.symm
          · exact m e)]; rfl
theorem flat_strs (l : List Str) : (l.map V.str).all flatV = true := by
  rw [List.all_map]; exact List.all_eq_true.mpr fun _ _ => rfl
theorem bk_append (S T : Br) : bk (S ++ T) = bk S ++ bk T := List.map_append
theorem bk_len (S : Br) : (bk S).length = S.length := List.length_map _
theorem bk_at {B : Br} {i : Nat} {k : Key} {v : V} (h : (bk B)[i]? = some (k, v)) : ∃ p, B[i]? = some p ∧ k = Sum.inr p.1 ∧ v = .int p.2 := by
  unfold bk at h
  rw [List.getElem?_map] at h
  cases e : B[i]? with
  | none => rw [e] at h; cases h
  | some p =>
    rw [e] at h
    have := Option.some.inj h
    injection this with h1 h2
    exact ⟨p, rfl, h1.symm, h2.symm⟩
theorem putK_bk {S : Br} {x : Str} {n : Int} (h : x ∉ nms S) : putK (bk S) (Sum.inr x : Key) (.int n) = bk (S ++ [(x, n)]) := by
  rw [putK_new _ (by rw [valV_bk, getB_none h]; rfl), bk_append]; rfl
theorem nms_append (S T : Br) : nms (S ++ T) = nms S ++ nms T := List.map_append
/-- the ponds that soak -/
def soakers (B : Br) (Pp : Pi) (l : Br) : Br := (l.filter fun p => decide (outW Pp p.1 < p.2)).map fun p => (p.1, 0)
theorem soakers_mem {B : Br} {Pp : Pi} {l : Br} {x : Str} : x ∈ nms (soakers B Pp l) ↔ ∃ b, (x, b) ∈ l ∧ outW Pp x < b := by
  unfold nms soakers
  rw [List.map_map, List.mem_map]
  constructor
  · rintro ⟨p, hp, rfl⟩
    obtain ⟨h1, h2⟩ := List.mem_filter.mp hp
    exact ⟨p.2, h1, of_decide_eq_true h2⟩
  · rintro ⟨b, hb, hl⟩
    exact ⟨(x, b), List.mem_filter.mpr ⟨hb, decide_eq_true hl⟩, rfl⟩
theorem soakers_nd {B : Br} {Pp : Pi} {l : Br} (nd : (nms l).Nodup) : (nms (soakers B Pp l)).Nodup := by
  unfold nms soakers
  rw [List.map_map]
  exact List.Nodup.sublist (List.Sublist.map Prod.fst List.filter_sublist) nd
section
variable {P : Program} {w : World} {K : PySem.W.Frag} {mg : Str → Option Value} {base : Heap}
theorem scSteps : FnScope ["brims", "pipes", "steps", "far", "edge", "name", "one", "other"] ["brims", "pipes"] (defScope sSteps) := ⟨rfl, rfl, rfl, by decide +kernel, rfl, by decide +kernel, by decide +kernel⟩
def spSteps : Sp := fun vs H Q _ => ∃ (a b : Addr) (B : Br) (Pp : Pi), vs = [.ref a, .ref b] ∧ H a = some (.dK (bk B)) ∧ H b = some (.dT (pt Pp)) ∧ Wf Nm B Pp ∧
  ∀ (H' : Hp) (p : Addr) (S : Br), Same H H' → H p = none → H' p = some (.dK (bk S)) → (nms S).Nodup → (∀ x, x ∈ nms S ↔ x ∈ nms B ∧ Opn B Pp x) → Q (.ref p) H'
theorem ok_steps {f fG : Addr} {fd fdG : FuncData} (F : Fun K "steps_out" "steps_out" sSteps f fd) (FG : Fun K "goes_out" "goes_out" sGoes fG fdG) (GG : FnOk P w K mg base CX0 1 fG fdG ["pipes", "name"] spGoes) (bG : Binds K fdG ["pipes", "name"] []) (gG : mg "goes_out" = some (.ref fG))
    (ms : mg "sorted" = none) : FnOk P w K mg base CX0 2 f fd ["brims", "pipes"] spSteps := by
  refine F.ok scSteps (fun vs H Q E h => ?_) (fun cdv A outer s H vs Q E hr h => ?_)
  · obtain ⟨a, b, B, Pp, rfl, _⟩ := h
    rfl
  · obtain ⟨a, b, B, Pp, rfl, hA, hB, wf, q⟩ := h
    have hu := hu_of hr
    refine ⟨_, pss_cons (ps_set (i := 2) scSteps.nd rfl (Or.inr rfl) (pe_lock (Rl.pe_dcP (T := .dK []) (own := [("name", 5)]) (g := gName 5) (.inr rfl) hr rfl scSteps.nd (pi_keys (pv 0))
        (blkOk_by (N := ["brims", "pipes", "steps", "far", "edge", "name", "one", "other"]) (sc := defScope sSteps) (by decide +kernel)) (fun _ _ _ _ _ => pg_name (i := 5) scSteps.nd rfl (Or.inl rfl))
        (fun _ _ _ _ _ => pts_one (pt_cmpR op_lt (pe_call GG hr (by rfl) gG FG.kp bG .nil pass0 (pa_cons (pv 1) (pa_cons (pv 5) pa_nil))) (pe_dget hu (pv 0) (pv 5) (fun _ _ => rfl)) (nomark _)))
        (fun _ _ _ _ _ => pv 5) (fun _ _ _ _ _ => pe_int))))
      (pss_cons (ps_set (i := 3) scSteps.nd rfl (Or.inl rfl) pe_int)
      (pss_cons (ps_set (i := 4) scSteps.nd rfl (Or.inr rfl) (pe_callB (call_sortedD rfl) (by rfl) ms (by decide +kernel) (pa_cons (pv 2) pa_nil)))
      (pss_cons (ps_while PassesOwn.never (pt_truth (pv 4) (by intro _; rfl))
        (pss_cons (ps_aug (i := 3) scSteps.nd rfl (.inl rfl) pe_int ip_add)
        (pss_cons (ps_set (i := 4) scSteps.nd rfl (Or.inr rfl) (pe_callB (Rl.call_sortX rfl) (by rfl) ms (by decide +kernel) (pa_cons (pe_lock (Rl.pe_scX (own := [("one", 6), ("other", 7)])
          (g := gTup K 2 (gCons (gName 6) (gCons (gName 7) gNil))) (tt := tAnd (tTest (tOp (rIn K false) (tVar 7) (tVar 4))) (tB (tDNotIn (tVar 6) (tVar 2)))) rfl scSteps.nd (pi_keys (pv 1))
          (blkOk_by (N := ["brims", "pipes", "steps", "far", "edge", "name", "one", "other"]) (sc := defScope sSteps) (by decide +kernel))
          (fun _ _ _ _ _ => pg_tup rfl (pgs_cons (pg_name (i := 6) scSteps.nd rfl (Or.inl rfl)) (pgs_cons (pg_name (i := 7) scSteps.nd rfl (Or.inl rfl)) pgs_nil)))
          (fun _ _ _ _ _ => pts_one (PW.pt (pw_and (pt_cmpR op_in_seq (pv 7) (pv 4) (by rfl)) (pw_and1 (pt_cmp (pc_dnotin hu (pv 6) (pv 2)))))))
          (fun _ _ _ _ _ => pv 6))) pa_nil)))
        (pss_one (ps_for PassesOwn.never rfl (pi_list (pv 4)) (pg_name (i := 5) scSteps.nd rfl (Or.inl rfl)) (pss_one (ps_dput hu (pv 2) (pv 5) (pv 3) rfl)))))))
      (pss_one (ps_ret (pv 2)))))), ?_⟩
    -- steps = {..}
    refine ⟨a, _, hA, trivial, fun od => ?_⟩
    refine ⟨.ref a, rfl, a, od, rfl, .inl ⟨_, upd_same, fun D nD => ?_⟩⟩
    have hDa : D ≠ a := fun e => by subst e; rw [upd_same] at nD; cases nD
    have nDH : H D = none := by rw [upd_ne hDa] at nD; exact nD
    have hba : b ≠ a := fun e => by subst e; rw [hA] at hB; cases hB
    refine Rl.gc_it (n := (bk B).length) (b0 := fun _ => .dK []) walk_keys (fun i H1 => H1 D = some (.dK (bk (soakers B Pp (B.take i)))) ∧ Same (upd H a (.frz od (.dK (bk B)))) H1) ⟨upd_same, same_new nD⟩ (fun i H1 _ h => h.2 a _ upd_same) ?_ ?_
    · rintro i x H1 H1' hi ⟨hD, sm⟩ ⟨rfl, kk, v, hkv, rfl⟩
      obtain ⟨p, hp, rfl, rfl⟩ := bk_at hkv
      have hm : p ∈ B := List.mem_of_getElem? hp
      have hB1 : H1' b = some (.dT (pt Pp)) := sm b _ (by rw [upd_ne hba]; exact hB)
      refine ⟨rfl, .ref b, rfl, .str p.1, rfl, b, Pp, p.1, rfl, hB1, wf.np, wf.lp, fun H2 s2 => ?_⟩
      refine ⟨.ref a, rfl, .str p.1, rfl, a, .int p.2, rfl, .inl ⟨_, Sum.inr p.1, .inr ⟨od, s2 a _ (sm a _ upd_same)⟩, rfl, ?_⟩, _, _, rfl, rfl, _, rfl, ?_⟩
      · rw [valV_bk, getB_of_mem wf.nb hm]; rfl
      · have il : i < B.length := (List.getElem?_eq_some_iff.mp hp).1
        have ndT : (nms (B.take i)).Nodup := List.Nodup.sublist (List.Sublist.map Prod.fst (List.take_sublist i B)) wf.nb
        have fresh : p.1 ∉ nms (B.take i) := by
          intro z
          have h2 : (nms (B.take (i + 1))).Nodup := List.Nodup.sublist (List.Sublist.map Prod.fst (List.take_sublist (i + 1) B)) wf.nb
          rw [List.take_add_one, hp] at h2
          have h3 : (nms (B.take i) ++ [p.1]).Nodup := by
            have := nms_append (B.take i) [p]
            rw [show (some p).toList = [p] from rfl, this] at h2
            exact h2
          rw [List.nodup_append] at h3
          exact h3.2.2 p.1 z p.1 (List.mem_singleton.mpr rfl) rfl
        refine ite2 (fun e => ?_) (fun e => ?_)
        · have e' : outW Pp p.1 < p.2 := of_decide_eq_true e
          have ns : p.1 ∉ nms (soakers B Pp (B.take i)) := fun z => by
            obtain ⟨c, hc, _⟩ := soakers_mem.mp z
            exact fresh (List.mem_map.mpr ⟨_, hc, rfl⟩)
          refine ⟨.str p.1, rfl, _, DPut.k (k := Sum.inr p.1) (s2 D _ hD) ?_, ?_, ?_⟩
          · rw [bk_len]
            refine small1000 (Nat.le_trans (?_ : _ ≤ B.length) (by have := wf.lb; omega))
            unfold soakers
            rw [List.length_map]
            refine Nat.le_trans (List.length_filter_le _ _) ?_
            rw [List.length_take]; omega
          · rw [upd_same, putK_bk ns, List.take_add_one, hp]
            unfold soakers
            rw [List.filter_append, List.map_append]
            show some (HO.dK (bk (_ ++ [(p.1, 0)]))) = some (HO.dK (bk (_ ++ List.map _ (List.filter _ [p]))))
            rw [List.filter_cons, if_pos (decide_eq_true e')]
            rfl
          · exact fun c o ec => by
              have nb : c ≠ D := ne_of_none ec nD
              rw [upd_ne nb]; exact s2 c o (sm c o ec)
        · refine ⟨?_, sm.trans s2⟩
          rw [s2 D _ hD, List.take_add_one, hp]
          unfold soakers
          rw [List.filter_append, List.map_append]
          show _ = some (HO.dK (bk (_ ++ List.map _ (List.filter _ [p]))))
          have e' : ¬ (decide (outW Pp p.1 < p.2) = true) := e
          rw [List.filter_cons, if_neg e']
          simp
    · rintro H1 ⟨hD, sm⟩
      obtain ⟨l1, sH⟩ := same_lock hA sm
      refine ⟨l1, ?_⟩
      rw [bk_len, List.take_length] at hD
      have hD2 : (upd H1 a (.dK (bk B))) D = some (.dK (bk (soakers B Pp B))) := by rw [upd_ne hDa]; exact hD
      obtain ⟨H2, hH2⟩ : ∃ H2, H2 = upd H1 a (.dK (bk B)) := ⟨_, rfl⟩
      rw [← hH2] at hD2 sH ⊢
      -- edge = sorted(steps)
      refine ⟨.ref D, rfl, D, _, nms (soakers B Pp B), rfl, .inl hD2, ?_, ?_, fun ys e0 pm _ ne0 => ?_⟩
      · unfold bk nms
        rw [List.map_map, List.map_map]; rfl
      · have h1 := len_le_of_sub (soakers_nd (B := B) (Pp := Pp) wf.nb) (m := nms B) (fun x hx => by
          obtain ⟨c, hc, _⟩ := soakers_mem.mp hx
          exact List.mem_map.mpr ⟨_, hc, rfl⟩)
        have h2 : (nms B).length = B.length := List.length_map _
        have := wf.lb
        omega
      have e0D : e0 ≠ D := Ne.symm (ne_of_none hD2 ne0)
      have bfs0 : Bfs B Pp (nms (soakers B Pp B)) ys :=
        ⟨soakers_nd wf.nb, fun x hx => by
            obtain ⟨c, hc, hl⟩ := soakers_mem.mp hx
            exact ⟨List.mem_map.mpr ⟨_, hc, rfl⟩, .soak hc hl⟩,
          fun x hx => pm.mem_iff.mp hx, fun x c hc hl => soakers_mem.mpr ⟨c, hc, hl⟩, fun x y w m hy => .inr (pm.mem_iff.mpr hy)⟩
      have lenS : ∀ {S E : Br} {E2 : List Str}, Bfs B Pp (nms S) E2 → S.length ≤ 12 := fun {S E E2} h => by
        have h1 := len_le_of_sub h.nd (m := nms B) (fun x hx => (h.sub x hx).1)
        have h2 : (nms B).length = B.length := List.length_map _
        have h3 : (nms S).length = S.length := List.length_map _
        have := wf.lb
        omega
      refine ⟨fun m σ H3 => ∃ (S : Br) (E2 : List Str) (far : Int) (e : Addr) (y5 y6 y7 : Option V), σ = [some (.ref a), some (.ref b), some (.ref D), some (.int far), some (.ref e), y5, y6, y7] ∧ Same H H3 ∧ H3 D = some (.dK (bk S)) ∧
        H3 e = some (.lst (E2.map V.str)) ∧ Bfs B Pp (nms S) E2 ∧ m = 2 * (12 - S.length) + (if E2 = [] then 0 else 1),
        ⟨_, soakers B Pp B, ys, 0, e0, none, none, none, rfl, sH.trans (same_new ne0), by rw [upd_ne (Ne.symm e0D)]; exact hD2, upd_same, bfs0, rfl⟩, ?_⟩
      rintro m σ H3 ⟨S, E2, far, e, y5, y6, y7, rfl, sm3, hD3, he3, bfs, rfl⟩
      have hlS : S.length ≤ 12 := lenS (E := []) bfs
      refine ⟨.ref e, rfl, !(E2.map V.str).isEmpty, .inl ⟨_, SqL.of he3, rfl⟩, ite2 (fun c => ?_) (fun c => ?_)⟩
      · have ne : E2 ≠ [] := fun z => by subst z; exact absurd c (by decide)
        refine ⟨fun σ' H' => ∃ m', m' < 2 * (12 - S.length) + (if E2 = [] then 0 else 1) ∧ ∃ (S : Br) (E2 : List Str) (far : Int) (e : Addr) (y5 y6 y7 : Option V), σ' = [some (.ref a), some (.ref b), some (.ref D), some (.int far), some (.ref e), y5, y6, y7] ∧ Same H H' ∧ H' D = some (.dK (bk S)) ∧
          H' e = some (.lst (E2.map V.str)) ∧ Bfs B Pp (nms S) E2 ∧ m' = 2 * (12 - S.length) + (if E2 = [] then 0 else 1), fun σ' H' h => h, ?_⟩
        -- far += 1
        refine ⟨.int far, rfl, far, 1, rfl, rfl, ?_⟩
        -- edge = sorted({..})
        have hB3 : H3 b = some (.dT (pt Pp)) := sm3 b _ hB
        refine ⟨b, _, hB3, trivial, fun od2 => ?_⟩
        refine ⟨.ref b, rfl, b, od2, rfl, .inr ⟨_, upd_same, fun D2 nD2 => ?_⟩⟩
        have hDb : D ≠ b := fun z => by subst z; rw [hD3] at hB3; cases hB3
        have heb : e ≠ b := fun z => by subst z; rw [he3] at hB3; cases hB3
        have hD2b : D2 ≠ b := fun z => by subst z; rw [upd_same] at nD2; cases nD2
        refine Rl.gc_it (n := (pt Pp).length) (b0 := fun D => Rl.SetX P w D []) walk_keysT (fun i H4 => ∃ l : List Str, H4 D2 = some (Rl.SetX P w D2 l) ∧ l.Nodup ∧
          (∀ x, x ∈ l ↔ (∃ y w, ((x, y), w) ∈ Pp.take i ∧ y ∈ E2) ∧ x ∉ nms S) ∧ Same (upd H3 b (.frz od2 (.dT (pt Pp)))) H4) ⟨[], upd_same, List.nodup_nil, fun x => ⟨fun h => (List.not_mem_nil h).elim, fun ⟨⟨y, w, h, _⟩, _⟩ => (List.not_mem_nil h).elim⟩, same_new nD2⟩
          (fun i H4 _ ⟨_, _, _, _, h⟩ => h b _ upd_same) ?_ ?_
        · rintro i x H4 H4' hi ⟨l, hl, ndl, ml, sm4⟩ ⟨rfl, kk, v, qq, hkv, rfl, hq⟩
          obtain ⟨p, hp, rfl, rfl⟩ := pt_at hkv
          have hm : p ∈ Pp := List.mem_of_getElem? hp
          have he4 : H4' e = some (.lst (E2.map V.str)) := sm4 e _ (by rw [upd_ne heb]; exact he3)
          have hD4 : H4' D = some (.dK (bk S)) := sm4 D _ (by rw [upd_ne hDb]; exact hD3)
          have lN : l.length ≤ 12 := by
            have h1 := len_le_of_sub ndl (m := nms B) (fun z hz => by
              obtain ⟨⟨y, w, h, _⟩, _⟩ := (ml z).mp hz
              exact (wf.rp _ (List.mem_of_mem_take h)).1)
            have h2 : (nms B).length = B.length := List.length_map _
            have := wf.lb
            omega
          have tk : Pp.take (i + 1) = Pp.take i ++ [p] := by rw [List.take_add_one, hp]; rfl
          refine ⟨qq, [.str p.1.1, .str p.1.2], rfl, SqT.of hq, rfl, .str p.1.1, [.str p.1.2], rfl, .str p.1.2, [], rfl, rfl, rfl, ?_⟩
          refine ⟨.str p.1.2, rfl, .ref e, rfl, e, E2.map V.str, rfl, .inl (SqL.of he4), rfl, flat_strs _, inV (.str p.1.2) (E2.map V.str), rfl, ?_⟩
          rw [inV_strs]
          have skip : ¬ (p.1.2 ∈ E2 ∧ p.1.1 ∉ nms S) → ∀ x, x ∈ l ↔ (∃ y w, ((x, y), w) ∈ Pp.take (i + 1) ∧ y ∈ E2) ∧ x ∉ nms S := by
            intro no x
            rw [ml x, tk]
            refine ⟨fun ⟨⟨y, w, h, hy⟩, n⟩ => ⟨⟨y, w, List.mem_append_left _ h, hy⟩, n⟩, fun ⟨⟨y, w, h, hy⟩, n⟩ => ?_⟩
            rcases List.mem_append.mp h with h | h
            · exact ⟨⟨y, w, h, hy⟩, n⟩
            · have h' : ((x, y), w) = p := by simpa using h
              exact absurd (show p.1.2 ∈ E2 ∧ p.1.1 ∉ nms S by rw [← h']; exact ⟨hy, n⟩) no
          refine ite2 (fun c1 => ?_) (fun c1 => ?_)
          · have c1' := of_decide_eq_true c1
            refine ⟨.str p.1.1, rfl, .ref D, rfl, D, _, rfl, .inl ⟨_, Sum.inr p.1.1, .inl hD4, rfl, rfl⟩, _, rfl, ?_⟩
            rw [valV_bk, getB_isSome]
            refine ite2 (fun c2 => ?_) (fun c2 => ?_)
            · have c2' : p.1.1 ∉ nms S := fun z => by rw [decide_eq_true z] at c2; cases c2
              refine ⟨.str p.1.1, rfl, p.1.1, l, rfl, hl, Nat.lt_of_le_of_lt (Nat.succ_le_succ lN) (by decide), _, upd_same, ?_, fun x => ?_, ?_⟩
              · split
                · exact ndl
                · exact List.nodup_cons.mpr ⟨by assumption, ndl⟩
              · have mem : x ∈ (if p.1.1 ∈ l then l else p.1.1 :: l) ↔ x = p.1.1 ∨ x ∈ l := by
                  split
                  · rename_i h
                    exact ⟨.inr, fun z => z.elim (fun e => e ▸ h) id⟩
                  · exact List.mem_cons
                rw [mem, ml x, tk]
                constructor
                · rintro (rfl | ⟨⟨y, w, h, hy⟩, n⟩)
                  · exact ⟨⟨p.1.2, p.2, List.mem_append_right _ (List.mem_singleton.mpr rfl), c1'⟩, c2'⟩
                  · exact ⟨⟨y, w, List.mem_append_left _ h, hy⟩, n⟩
                · rintro ⟨⟨y, w, h, hy⟩, n⟩
                  rcases List.mem_append.mp h with h | h
                  · exact .inr ⟨⟨y, w, h, hy⟩, n⟩
                  · have h' : ((x, y), w) = p := by simpa using h
                    exact .inl (by rw [← h'])
              · exact fun c o ec => by
                  have nb : c ≠ D2 := ne_of_none ec nD2
                  rw [upd_ne nb]; exact sm4 c o ec
            · refine ⟨l, hl, ndl, skip fun ⟨_, z⟩ => c2 (by rw [decide_eq_false z]; rfl), sm4⟩
          · exact iteF ⟨l, hl, ndl, skip fun ⟨z, _⟩ => c1 (decide_eq_true z), sm4⟩
        · rintro H4 ⟨l, hl, ndl, ml, sm4⟩
          obtain ⟨l1, s34⟩ := same_lock hB3 sm4
          refine ⟨l1, ?_⟩
          rw [show (pt Pp).length = Pp.length from List.length_map _, List.take_length] at ml
          have hl2 : (upd H4 b (.dT (pt Pp))) D2 = some (Rl.SetX P w D2 l) := by rw [upd_ne hD2b]; exact hl
          obtain ⟨H5, hH5⟩ : ∃ H5, H5 = upd H4 b (.dT (pt Pp)) := ⟨_, rfl⟩
          rw [← hH5] at hl2 s34 ⊢
          have lN : l.length ≤ 12 := by
            have h1 := len_le_of_sub ndl (m := nms B) (fun z hz => by
              obtain ⟨⟨y, w, h, _⟩, _⟩ := (ml z).mp hz
              exact (wf.rp _ h).1)
            have h2 : (nms B).length = B.length := List.length_map _
            have := wf.lb
            omega
          refine ⟨D2, l, rfl, hl2, by omega, fun ys2 e2 pm2 _ ne2 => ?_⟩
          have ndy : ys2.Nodup := pm2.nodup_iff.mpr ndl
          have hD5 : H5 D = some (.dK (bk S)) := s34 D _ hD3
          have e2D : e2 ≠ D := Ne.symm (ne_of_none hD5 ne2)
          have nb := bfs.next wf ndy (fun x => by rw [pm2.mem_iff]; exact ml x)
          have nD3 : ∀ x ∈ ys2, x ∉ nms S := fun x hx => ((ml x).mp (pm2.mem_iff.mp hx)).2
          -- for name in edge: steps[name] = far
          refine ⟨.ref e2, rfl, e2, rfl, ⟨_, SqL.of upd_same⟩, ?_⟩
          refine for_it (walk_list (K := K) (a := e2) (xs := ys2.map V.str)) (fun i σ H6 => ∃ y5 : Option V, σ = [some (.ref a), some (.ref b), some (.ref D), some (.int (far + 1)), some (.ref e2), y5, y6, y7] ∧ Same H H6 ∧
            H6 D = some (.dK (bk (S ++ (ys2.take i).map fun x => (x, far + 1)))) ∧ H6 e2 = some (.lst (ys2.map V.str))) ⟨y5, rfl, sm3.trans (s34.trans (same_new ne2)), ?_, upd_same⟩ (fun i σ H6 _ ⟨_, _, _, _, h⟩ => SqL.of h) ?_ ?_
          · rw [upd_ne (Ne.symm e2D)]
            show _ = some (HO.dK (bk (S ++ [])))
            rw [List.append_nil]; exact hD5
          · rintro i x σ H6 H6' hi ⟨y5', rfl, sm6, hD6, he6⟩ ⟨rfl, hx⟩
            rw [List.getElem?_map] at hx
            cases hy : ys2[i]? with
            | none => rw [hy] at hx; cases hx
            | some z =>
              rw [hy] at hx
              have hx' : V.str z = x := Option.some.inj hx
              subst hx'
              have fr : z ∉ nms (S ++ (ys2.take i).map fun x => (x, far + 1)) := by
                rw [nms_append]
                intro m
                rcases List.mem_append.mp m with m | m
                · exact nD3 z (List.mem_of_getElem? hy) m
                · unfold nms at m
                  rw [List.map_map] at m
                  have m' : z ∈ ys2.take i := by
                    obtain ⟨u, hu, eu⟩ := List.mem_map.mp m
                    have eu' : u = z := eu
                    rw [← eu']; exact hu
                  have h2 : (ys2.take (i + 1)).Nodup := List.Nodup.sublist (List.take_sublist _ _) ndy
                  rw [List.take_add_one, hy, List.nodup_append] at h2
                  exact h2.2.2 z m' z (List.mem_singleton.mpr rfl) rfl
              refine ⟨.int (far + 1), rfl, .ref D, rfl, .str z, rfl, D, _, rfl, DPut.k (k := Sum.inr z) hD6 ?_, ?_⟩
              · rw [bk_len, List.length_append, List.length_map, List.length_take]
                have := pm2.length_eq
                exact small1000 (by omega)
              · refine ⟨_, rfl, fun c o ec => ?_, ?_, ?_⟩
                · have nc : c ≠ D := ne_of_none ec nDH
                  rw [upd_ne nc]; exact sm6 c o ec
                · rw [upd_same, putK_bk fr, List.take_add_one, hy, List.map_append, List.append_assoc]; rfl
                · rw [upd_ne e2D]; exact he6
          · rintro σ H6 ⟨y5', rfl, sm6, hD6, he6⟩
            rw [List.length_map, List.take_length] at hD6
            have nbS : Bfs B Pp (nms (S ++ ys2.map fun x => (x, far + 1))) ys2 := by
              have e1 : nms (S ++ ys2.map fun x => (x, far + 1)) = nms S ++ ys2 := by
                rw [nms_append]
                unfold nms
                rw [List.map_map]
                congr 1
                exact List.map_id' ys2
              rw [e1]; exact nb
            refine ⟨_, ?_, S ++ ys2.map (fun x => (x, far + 1)), ys2, far + 1, e2, y5', y6, y7, rfl, sm6, hD6, he6, nbS, rfl⟩
            have hl3 := lenS (E := []) nbS
            rw [List.length_append, List.length_map] at hl3 ⊢
            rw [if_neg ne]
            by_cases z : ys2 = []
            · rw [if_pos z, z]
              show 2 * (12 - (S.length + 0)) + 0 < _
              omega
            · rw [if_neg z]
              have : 0 < ys2.length := List.length_pos_iff.mpr z
              omega
      · have z : E2 = [] := by
          cases E2 with
          | nil => rfl
          | cons x r => exact absurd rfl c
        subst z
        refine ⟨.ref D, rfl, q H3 D S sm3 nDH hD3 bfs.nd fun x => ⟨bfs.sub x, fun ⟨_, o⟩ => bfs.done (nm := Nm) o⟩⟩
end
end Nl
end
section
set_option maxHeartbeats 1000000
namespace Nl
open PySem PySem.Spec PyProof.Rows L2 Nt
section
variable {P : Program} {w : World} {K : PySem.W.Frag} {mg : Str → Option Value} {base : Heap}
theorem scCkPonds : FnScope ["brims", "name"] ["brims"] (defScope sCkPonds) := ⟨rfl, rfl, rfl, by decide +kernel, rfl, by decide +kernel, by decide +kernel⟩
def spCkPonds : Sp := fun vs H Q _ => ∃ (a : Addr) (B : Br) (Pp : Pi), vs = [.ref a] ∧ H a = some (.dK (bk B)) ∧ Wf Nm B Pp ∧ ∀ H', Same H H' → Q .non H'
theorem ok_ckPonds {f fN fM : Addr} {fd fdN fdM : FuncData} {tm : Tok} (F : Fun K "check_ponds" "check_ponds" sCkPonds f fd) (FN : Fun K "is_name" "is_name" sName fN fdN) (GN : FnOk P w K mg base CX0 1 fN fdN ["thing"] spName) (bN : Binds K fdN ["thing"] []) (gN : mg "is_name" = some (.ref fN))
    (FM : Fun K "is_measure" "is_measure" sMeas fM fdM) (GM : FnOk P w K mg base CX0 2 fM fdM ["thing"] spMeas) (bM : Binds K fdM ["thing"] []) (gM : mg "is_measure" = some (.ref fM)) (ml : mg "len" = none) (gP : mg "MOST_PONDS" = some (.int 12 tm)) :
    FnOk P w K mg base CX0 3 f fd ["brims"] spCkPonds := by
  refine F.ok scCkPonds (fun vs H Q E h => ?_) (fun cdv A outer s H vs Q E hr h => ?_)
  · obtain ⟨a, B, Pp, rfl, _⟩ := h
    rfl
  · obtain ⟨a, B, Pp, rfl, hA, wf, q⟩ := h
    have hr1 := hr.mono (show 1 ≤ 2 by decide)
    refine ⟨_, pss_cons (ps_lock (ps_for PassesOwn.never rfl (pi_keys (pv 0)) (pg_name (i := 1) scCkPonds.nd rfl (.inl rfl)) (pss_one (ps_if (pt_not (pt_val (pe_call GN hr1 (by rfl) gN FN.kp bN .nil pass0 (pa_cons (pv 1) pa_nil)))) (pss_one ps_never) pss_nil))))
      (pss_cons (ps_if (pt_cmpR op_gt (pe_callB call_lenD (by rfl) ml PySem.boot_len (pa_cons (pv 0) pa_nil)) (pe_glob (v := .int 12) rfl gP ⟨_, rfl⟩) (nomark _)) (pss_one ps_never) pss_nil)
      (pss_one (ps_lock (ps_for PassesOwn.never rfl (pi_keys (pv 0)) (pg_name (i := 1) scCkPonds.nd rfl (.inl rfl)) (pss_one (ps_if (pt_not (pt_val (pe_call GM hr (by rfl) gM FM.kp bM .nil pass0 (pa_cons (pe_dget (hu_of hr) (pv 0) (pv 1) (fun _ _ => rfl)) pa_nil)))) (pss_one ps_never) pss_nil)))))), ?_⟩
    refine ⟨a, _, hA, trivial, fun od => ?_⟩
    refine ⟨.ref a, rfl, a, od, rfl, .inl ⟨_, upd_same, ?_⟩⟩
    refine for_it (n := (bk B).length) walk_keys (fun i σ H1 => ∃ y : Option V, σ = [some (.ref a), y] ∧ Same (upd H a (.frz od (.dK (bk B)))) H1) ⟨none, rfl, Same.refl _⟩ (fun i σ H1 _ ⟨_, _, h⟩ => h a _ upd_same) ?_ ?_
    · rintro i x σ H1 H1' hi ⟨y, rfl, sm⟩ ⟨rfl, kk, v, hkv, rfl⟩
      obtain ⟨p, hp, rfl, rfl⟩ := bk_at hkv
      have hn := (wf.rb p (List.mem_of_getElem? hp)).1
      refine ⟨.str p.1, rfl, p.1, rfl, hn.sm.mono (by decide), fun H2 s2 => ?_⟩
      rw [show nameB p.1 = true from hn]
      exact ⟨true, rfl, iteF ⟨_, rfl, sm.trans s2⟩⟩
    · rintro σ H1 ⟨y, rfl, sm⟩
      obtain ⟨l1, s1⟩ := same_lock hA sm
      refine ⟨l1, ?_⟩
      have hA1 := s1 a _ hA
      obtain ⟨H2, hH2⟩ : ∃ H2, H2 = upd H1 a (.dK (bk B)) := ⟨_, rfl⟩
      rw [← hH2] at hA1 s1 ⊢
      refine ⟨.ref a, rfl, a, _, rfl, hA1, _, _, rfl, rfl, _, rfl, ?_⟩
      rw [bk_len, decide_eq_false (show ¬ ((B.length : Int) > 12) by have := wf.lb; omega)]
      refine iteF ?_
      refine ⟨a, _, hA1, trivial, fun od2 => ?_⟩
      refine ⟨.ref a, rfl, a, od2, rfl, .inl ⟨_, upd_same, ?_⟩⟩
      refine for_it (n := (bk B).length) walk_keys (fun i σ H3 => ∃ y : Option V, σ = [some (.ref a), y] ∧ Same (upd H2 a (.frz od2 (.dK (bk B)))) H3) ⟨y, rfl, Same.refl _⟩ (fun i σ H3 _ ⟨_, _, h⟩ => h a _ upd_same) ?_ ?_
      · rintro i x σ H3 H3' hi ⟨y, rfl, sm3⟩ ⟨rfl, kk, v, hkv, rfl⟩
        obtain ⟨p, hp, rfl, rfl⟩ := bk_at hkv
        have hm := List.mem_of_getElem? hp
        obtain ⟨_, b1, b2⟩ := wf.rb p hm
        refine ⟨.ref a, rfl, .str p.1, rfl, a, .int p.2, rfl, .inl ⟨_, Sum.inr p.1, .inr ⟨od2, sm3 a _ upd_same⟩, rfl, ?_⟩, p.2, rfl, b1, b2, true, rfl, iteF ⟨_, rfl, sm3⟩⟩
        rw [valV_bk, getB_of_mem wf.nb hm]; rfl
      · rintro σ H3 ⟨y, rfl, sm3⟩
        obtain ⟨l3, s3⟩ := same_lock hA1 sm3
        exact ⟨l3, q _ (s1.trans s3)⟩
theorem scCkPipes : FnScope ["brims", "pipes", "pair"] ["brims", "pipes"] (defScope sCkPipes) := ⟨rfl, rfl, rfl, by decide +kernel, rfl, by decide +kernel, by decide +kernel⟩
def spCk2 (F : Br → Pi → Prop) : Sp := fun vs H Q _ => ∃ (a b : Addr) (B : Br) (Pp : Pi), vs = [.ref a, .ref b] ∧ H a = some (.dK (bk B)) ∧ H b = some (.dT (pt Pp)) ∧ Wf Nm B Pp ∧ F B Pp ∧ ∀ H', Same H H' → Q .non H'
theorem ok_ckPipes {f fN fM : Addr} {fd fdN fdM : FuncData} (F : Fun K "check_pipes" "check_pipes" sCkPipes f fd) (FN : Fun K "is_pair_of" "is_pair_of" sPairOf fN fdN) (GN : FnOk P w K mg base CX0 3 fN fdN ["brims", "thing"] spPairOf) (bN : Binds K fdN ["brims", "thing"] []) (gN : mg "is_pair_of" = some (.ref fN))
    (FM : Fun K "is_measure" "is_measure" sMeas fM fdM) (GM : FnOk P w K mg base CX0 2 fM fdM ["thing"] spMeas) (bM : Binds K fdM ["thing"] []) (gM : mg "is_measure" = some (.ref fM)) :
    FnOk P w K mg base CX0 4 f fd ["brims", "pipes"] (spCk2 fun _ _ => True) := by
  refine F.ok scCkPipes (fun vs H Q E h => ?_) (fun cdv A outer s H vs Q E hr h => ?_)
  · obtain ⟨a, b, B, Pp, rfl, _⟩ := h
    rfl
  · obtain ⟨a, b, B, Pp, rfl, hA, hB, wf, _, q⟩ := h
    have hr2 := hr.mono (show 2 ≤ 3 by decide)
    refine ⟨_, pss_one (ps_lock (ps_for PassesOwn.never rfl (pi_keys (pv 1)) (pg_name (i := 2) scCkPipes.nd rfl (.inl rfl)) (pss_one (ps_if (PW.pt (pw_or (pt_not (pt_val (pe_call GN hr (by rfl) gN FN.kp bN .nil pass0 (pa_cons (pv 0) (pa_cons (pv 2) pa_nil)))))
      (pw_or1 (pt_not (pt_val (pe_call GM hr2 (by rfl) gM FM.kp bM .nil pass0 (pa_cons (pe_dget (hu_of hr) (pv 1) (pv 2) (fun _ _ => rfl)) pa_nil))))))) (pss_one ps_never) pss_nil)))), ?_⟩
    have hab : a ≠ b := fun z => by subst z; rw [hA] at hB; cases hB
    refine ⟨b, _, hB, trivial, fun od => ?_⟩
    refine ⟨.ref b, rfl, b, od, rfl, .inr ⟨_, upd_same, ?_⟩⟩
    refine for_it (n := (pt Pp).length) walk_keysT (fun i σ H1 => ∃ y : Option V, σ = [some (.ref a), some (.ref b), y] ∧ Same (upd H b (.frz od (.dT (pt Pp)))) H1) ⟨none, rfl, Same.refl _⟩ (fun i σ H1 _ ⟨_, _, h⟩ => h b _ upd_same) ?_ ?_
    · rintro i x σ H1 H1' hi ⟨y, rfl, sm⟩ ⟨rfl, kk, v, qq, hkv, rfl, hq⟩
      obtain ⟨p, hp, rfl, rfl⟩ := pt_at hkv
      have hm := List.mem_of_getElem? hp
      obtain ⟨m1, m2, ne, w1, w2⟩ := wf.rp p hm
      obtain ⟨p1, hp1, e1⟩ := List.mem_map.mp m1
      obtain ⟨p2, hp2, e2⟩ := List.mem_map.mp m2
      have n1 : Nm p.1.1 := by rw [← (show p1.1 = p.1.1 from e1)]; exact (wf.rb p1 hp1).1
      have n2 : Nm p.1.2 := by rw [← (show p2.1 = p.1.2 from e2)]; exact (wf.rb p2 hp2).1
      refine ⟨.ref a, rfl, .ref qq, rfl, a, qq, B, p.1.1, p.1.2, rfl, .inl (sm a _ (by rw [upd_ne hab]; exact hA)), hq, n1, n2, m1, m2, ne, fun H2 s2 => ⟨true, rfl, iteF ?_⟩⟩
      refine ⟨.ref b, rfl, .ref qq, rfl, b, .int p.2, rfl, .inr ⟨_, Rl.pk p.1, qq, .inr ⟨od, s2 b _ (sm b _ upd_same)⟩, rfl, s2 qq _ hq, ?_⟩, p.2, rfl, w1, w2, true, rfl, iteF ⟨_, rfl, sm.trans s2⟩⟩
      rw [valV_pt, getP_of_mem wf.np (show (p.1, p.2) ∈ Pp from hm)]; rfl
    · rintro σ H1 ⟨y, rfl, sm⟩
      obtain ⟨l1, s1⟩ := same_lock hB sm
      exact ⟨l1, q _ s1⟩
theorem scCkSides : FnScope ["brims", "pipes", "name"] ["brims", "pipes"] (defScope sCkSides) := ⟨rfl, rfl, rfl, by decide +kernel, rfl, by decide +kernel, by decide +kernel⟩
theorem ok_ckSides {f fN fM : Addr} {fd fdN fdM : FuncData} (F : Fun K "check_sides" "check_sides" sCkSides f fd) (FN : Fun K "goes_out" "goes_out" sGoes fN fdN) (GN : FnOk P w K mg base CX0 1 fN fdN ["pipes", "name"] spGoes) (bN : Binds K fdN ["pipes", "name"] []) (gN : mg "goes_out" = some (.ref fN))
    (FM : Fun K "comes_in" "comes_in" sComes fM fdM) (GM : FnOk P w K mg base CX0 1 fM fdM ["pipes", "name"] spComes) (bM : Binds K fdM ["pipes", "name"] []) (gM : mg "comes_in" = some (.ref fM)) (ms : mg "sorted" = none) :
    FnOk P w K mg base CX0 2 f fd ["brims", "pipes"] (spCk2 Fit) := by
  refine F.ok scCkSides (fun vs H Q E h => ?_) (fun cdv A outer s H vs Q E hr h => ?_)
  · obtain ⟨a, b, B, Pp, rfl, _⟩ := h
    rfl
  · obtain ⟨a, b, B, Pp, rfl, hA, hB, wf, fit, q⟩ := h
    have hu := hu_of hr
    refine ⟨_, pss_one (ps_for PassesOwn.never rfl (pi_list (pe_callB (call_sortedD rfl) (by rfl) ms (by decide +kernel) (pa_cons (pv 0) pa_nil))) (pg_name (i := 2) scCkSides.nd rfl (.inl rfl))
      (pss_cons (ps_if (pt_cmpR op_gt (pe_call GN hr (by rfl) gN FN.kp bN .nil pass0 (pa_cons (pv 1) (pa_cons (pv 2) pa_nil))) (pe_dget hu (pv 0) (pv 2) (fun _ _ => rfl)) (nomark _)) (pss_one ps_never) pss_nil)
      (pss_one (ps_if (pt_cmpR op_gt (pe_call GM hr (by rfl) gM FM.kp bM .nil pass0 (pa_cons (pv 1) (pa_cons (pv 2) pa_nil))) (pe_dget hu (pv 0) (pv 2) (fun _ _ => rfl)) (nomark _)) (pss_one ps_never) pss_nil)))), ?_⟩
    refine ⟨.ref a, rfl, a, _, nms B, rfl, .inl hA, ?_, ?_, fun ys e pm _ ne => ?_⟩
    · unfold bk nms
      rw [List.map_map, List.map_map]; rfl
    · show (B.map _).length < 64
      rw [List.length_map]; have := wf.lb; omega
    refine ⟨e, rfl, ⟨_, SqL.of upd_same⟩, ?_⟩
    refine for_it (walk_list (K := K) (a := e) (xs := ys.map V.str)) (fun i σ H1 => ∃ y : Option V, σ = [some (.ref a), some (.ref b), y] ∧ Same (upd H e (.lst (ys.map V.str))) H1) ⟨none, rfl, Same.refl _⟩ (fun i σ H1 _ ⟨_, _, h⟩ => SqL.of (h e _ upd_same)) ?_ ?_
    · rintro i x σ H1 H1' hi ⟨y, rfl, sm⟩ ⟨rfl, hx⟩
      rw [List.getElem?_map] at hx
      cases hy : ys[i]? with
      | none => rw [hy] at hx; cases hx
      | some z =>
        rw [hy] at hx
        have hx' : V.str z = x := Option.some.inj hx
        subst hx'
        obtain ⟨p, hp, ez⟩ := List.mem_map.mp (pm.mem_iff.mp (List.mem_of_getElem? hy))
        have ez' : p.1 = z := ez
        obtain ⟨f1, f2⟩ := fit p hp
        rw [ez'] at f1 f2
        have gz : getB B z = some p.2 := getB_of_mem wf.nb (by rw [← ez']; exact hp)
        have sA := (same_new (o := .lst (ys.map V.str)) ne).trans sm
        refine ⟨.ref b, rfl, .str z, rfl, b, Pp, z, rfl, sA b _ hB, wf.np, wf.lp, fun H2 s2 => ?_⟩
        refine ⟨.ref a, rfl, .str z, rfl, a, .int p.2, rfl, .inl ⟨_, Sum.inr z, .inl (s2 a _ (sA a _ hA)), rfl, by rw [valV_bk, gz]; rfl⟩, _, _, rfl, rfl, _, rfl, ?_⟩
        rw [decide_eq_false (show ¬ (outW Pp z > p.2) by omega)]
        refine iteF ?_
        refine ⟨.ref b, rfl, .str z, rfl, b, Pp, z, rfl, s2 b _ (sA b _ hB), wf.np, wf.lp, fun H3 s3 => ?_⟩
        refine ⟨.ref a, rfl, .str z, rfl, a, .int p.2, rfl, .inl ⟨_, Sum.inr z, .inl (s3 a _ (s2 a _ (sA a _ hA))), rfl, by rw [valV_bk, gz]; rfl⟩, _, _, rfl, rfl, _, rfl, ?_⟩
        rw [decide_eq_false (show ¬ (inW Pp z > p.2) by omega)]
        exact iteF ⟨_, rfl, sm.trans (s2.trans s3)⟩
    · rintro σ H1 ⟨y, rfl, sm⟩
      exact q _ ((same_new ne).trans sm)
theorem scCkWays : FnScope ["brims", "pipes", "steps", "closed", "name"] ["brims", "pipes"] (defScope sCkWays) := ⟨rfl, rfl, rfl, by decide +kernel, rfl, by decide +kernel, by decide +kernel⟩
theorem ok_ckWays {f fN : Addr} {fd fdN : FuncData} (F : Fun K "check_ways" "check_ways" sCkWays f fd) (FN : Fun K "steps_out" "steps_out" sSteps fN fdN) (GN : FnOk P w K mg base CX0 2 fN fdN ["brims", "pipes"] spSteps) (bN : Binds K fdN ["brims", "pipes"] []) (gN : mg "steps_out" = some (.ref fN)) (ms : mg "sorted" = none) :
    FnOk P w K mg base CX0 3 f fd ["brims", "pipes"] (spCk2 fun B Pp => ∀ x ∈ nms B, Opn B Pp x) := by
  refine F.ok scCkWays (fun vs H Q E h => ?_) (fun cdv A outer s H vs Q E hr h => ?_)
  · obtain ⟨a, b, B, Pp, rfl, _⟩ := h
    rfl
  · obtain ⟨a, b, B, Pp, rfl, hA, hB, wf, op, q⟩ := h
    refine ⟨_, pss_cons (ps_set (i := 2) scCkWays.nd rfl (.inr rfl) (pe_call GN hr (by rfl) gN FN.kp bN .nil pass0 (pa_cons (pv 0) (pa_cons (pv 1) pa_nil))))
      (pss_cons (ps_setLc (i := 3) (own := [("name", 4)]) (g := gName 4) rfl scCkWays.nd rfl rfl (sw_true rfl rfl rfl (by decide +kernel)) (pi_list (pe_callB (call_sortedD rfl) (by rfl) ms (by decide +kernel) (pa_cons (pv 0) pa_nil)))
        (blkOk_by (N := ["brims", "pipes", "steps", "closed", "name"]) (sc := defScope sCkWays) (by decide +kernel)) (fun _ _ _ _ _ => pg_name (i := 4) scCkWays.nd rfl (Or.inl rfl))
        (fun _ _ _ _ _ => pts_one (pt_cmp (pc_dnotin (hu_of hr) (pv 4) (pv 2)))) (fun _ _ _ _ _ => pv 4))
      (pss_one (ps_if (pt_truth (pv 3) (by intro _; rfl)) (pss_one ps_never) pss_nil))), ?_⟩
    refine ⟨.ref a, rfl, .ref b, rfl, a, b, B, Pp, rfl, hA, hB, wf, fun H1 p S s1 np hp ndS mS => ?_⟩
    refine ⟨.ref a, rfl, a, _, nms B, rfl, .inl (s1 a _ hA), ?_, ?_, fun ys e pm _ ne => ?_⟩
    · unfold bk nms
      rw [List.map_map, List.map_map]; rfl
    · show (B.map _).length < 64
      rw [List.length_map]; have := wf.lb; omega
    have sE := same_new (o := .lst (ys.map V.str)) ne
    refine ⟨e, rfl, ⟨_, SqL.of upd_same⟩, fun D nD => ?_⟩
    refine lc_it (walk_list (K := K) (a := e) (xs := ys.map V.str)) (fun i H2 => H2 D = some (.lst []) ∧ Same (upd H1 e (.lst (ys.map V.str))) H2) ⟨upd_same, same_new nD⟩ (fun i H2 _ h => SqL.of (h.2 e _ upd_same)) ?_ ?_
    · rintro i x H2 H2' hi ⟨hD, sm⟩ ⟨rfl, hx⟩
      rw [List.getElem?_map] at hx
      cases hy : ys[i]? with
      | none => rw [hy] at hx; cases hx
      | some z =>
        rw [hy] at hx
        have hx' : V.str z = x := Option.some.inj hx
        subst hx'
        have mz : z ∈ nms B := pm.mem_iff.mp (List.mem_of_getElem? hy)
        have mz2 : z ∈ nms S := (mS z).mpr ⟨mz, op z mz⟩
        refine ⟨rfl, .str z, rfl, .ref p, rfl, p, _, rfl, .inl ⟨_, Sum.inr z, .inl (sm p _ (sE p _ hp)), rfl, rfl⟩, _, rfl, ?_⟩
        rw [valV_bk, getB_isSome, decide_eq_true mz2]
        exact iteF ⟨hD, sm⟩
    · rintro H2 ⟨hD, sm⟩
      refine ⟨.ref D, rfl, false, .inl ⟨[], SqL.of hD, rfl⟩, iteF ?_⟩
      exact q _ (s1.trans (sE.trans sm))
end
end Nl
end
section
set_option maxHeartbeats 1000000
namespace Nl
open PySem PySem.Spec PyProof.Rows L2 Nt
/-- what ins tells -/
def insOf (Pp : Pi) (z : Str) : List (Str × Int) := (Pp.filter fun p => decide (p.1.2 = z)).map fun p => (p.1.1, p.2)
/-- what outs tells -/
def outsOf (Pp : Pi) (z : Str) : List (Str × Int) := (Pp.filter fun p => decide (p.1.1 = z)).map fun p => (p.1.2, p.2)
/-- a list of tuples (a text, a number) stands there -/
def PairsAt (H : Hp) (as : List Addr) (l : List (Str × Int)) : Prop := as.length = l.length ∧ ∀ (i : Nat) (p : Str × Int), l[i]? = some p → ∃ q, as[i]? = some q ∧ H q = some (.tup [.str p.1, .int p.2])
theorem PairsAt.same {H H' : Hp} {as : List Addr} {l : List (Str × Int)} (h : PairsAt H as l) (s : Same H H') : PairsAt H' as l := ⟨h.1, fun i p e => by
  obtain ⟨q, e1, e2⟩ := h.2 i p e
  exact ⟨q, e1, s _ _ e2⟩⟩
theorem PairsAt.keep {H H' : Hp} {as : List Addr} {l : List (Str × Int)} (h : PairsAt H as l) (s : ∀ b xs, H b = some (.tup xs) → H' b = some (.tup xs)) : PairsAt H' as l := ⟨h.1, fun i p e => by
  obtain ⟨q, e1, e2⟩ := h.2 i p e
  exact ⟨q, e1, s _ _ e2⟩⟩
theorem PairsAt.push {H H' : Hp} {as : List Addr} {l : List (Str × Int)} {q : Addr} {p : Str × Int} (h : PairsAt H as l) (s : ∀ b xs, H b = some (.tup xs) → H' b = some (.tup xs)) (hq : H' q = some (.tup [.str p.1, .int p.2])) : PairsAt H' (as ++ [q]) (l ++ [p]) := by
  refine ⟨by rw [List.length_append, List.length_append, h.1]; rfl, fun i p' e => ?_⟩
  by_cases hi : i < l.length
  · rw [List.getElem?_append_left hi] at e
    obtain ⟨q', e1, e2⟩ := h.2 i p' e
    exact ⟨q', by rw [List.getElem?_append_left (by rw [h.1]; exact hi)]; exact e1, s _ _ e2⟩
  · rw [List.getElem?_append_right (by omega)] at e
    have hl : i - l.length = 0 := by
      cases hh : i - l.length with
      | zero => rfl
      | succ k => rw [hh] at e; simp at e
    rw [hl] at e
    have ep : p = p' := Option.some.inj e
    subst ep
    refine ⟨q, ?_, hq⟩
    rw [List.getElem?_append_right (by rw [h.1]; omega), h.1, hl]; rfl
/-- what an expression has made is locked for good: read, never written -/
def tFrz (t : TE) : TE := fun σ H Q => t σ H fun v H1 => ∃ d u, H1 d = some u ∧ Mut (some u) ∧ ∀ od, Q v (upd H1 d (.frz od u))
theorem pe_frz {X : Cx} {e : Expr} {t : TE} (h : PE X e t) : PE X e (tFrz t) := by
  refine ⟨fun pins s σ H Q I hw => ?_⟩
  refine thn (h.run pins s σ _ _ I hw) fun v s1 ⟨x, H1, I2, r, d, u, hd, mu, q⟩ => ?_
  obtain ⟨od, I3⟩ := I2.lock hd mu
  exact ⟨x, _, I3, r, q od⟩
section
variable {P : Program} {w : World} {K : PySem.W.Frag} {mg : Str → Option Value} {base : Heap}
def spSide (g : Pi → Str → List (Str × Int)) : Sp := fun vs H Q _ => ∃ (a : Addr) (Pp : Pi) (z : Str), vs = [.ref a, .str z] ∧ H a = some (.dT (pt Pp)) ∧ (Pp.map Prod.fst).Nodup ∧ Pp.length ≤ 200 ∧
  ∀ H' p as od, Same H H' → H p = none → H' p = some (.frz od (.lst (as.map V.ref))) → PairsAt H' as (g Pp z) → Q (.ref p) H'
theorem scPipesOut : FnScope ["pipes", "name", "one", "other"] ["pipes", "name"] (defScope sPipesOut) := ⟨rfl, rfl, rfl, by decide +kernel, rfl, by decide +kernel, by decide +kernel⟩
theorem ok_PipesOut {f : Addr} {fd : FuncData} {k : Nat} (F : Fun K "pipes_out" "pipes_out" sPipesOut f fd) : FnOk P w K mg base CX0 (k + 1) f fd ["pipes", "name"] (spSide outsOf) := by
  refine F.ok scPipesOut (fun vs H Q E h => ?_) (fun cdv A outer s H vs Q E hr h => ?_)
  · obtain ⟨a, Pp, z, rfl, _⟩ := h
    rfl
  · obtain ⟨a, Pp, z, rfl, hA, nd, hl, q⟩ := h
    refine ⟨_, pss_one (ps_ret (pe_frz (pe_lock (pe_lc (own := [("one", 2), ("other", 3)]) (g := gTup K 2 (gCons (gName 2) (gCons (gName 3) gNil)))
      (tt := tTest (tOp rEq (tVar 2) (tVar 1))) (te := tTup (tCons (tVar 3) (tCons (tDGet (tVar 0) (tTup (tCons (tVar 2) (tCons (tVar 3) tNil)))) tNil))) rfl scPipesOut.nd (pi_keys (pv 0))
      (blkOk_by (N := ["pipes", "name", "one", "other"]) (sc := defScope sPipesOut) (by decide +kernel)) (fun _ _ _ _ _ => pg_tup rfl (pgs_cons (pg_name (i := 2) scPipesOut.nd rfl (Or.inl rfl)) (pgs_cons (pg_name (i := 3) scPipesOut.nd rfl (Or.inl rfl)) pgs_nil)))
      (fun _ _ _ _ _ => pts_one (pt_cmpR op_eq (pv 2) (pv 1) (nomark _)))
      (fun _ _ _ _ _ => pe_tup (pa_cons (pv 3) (pa_cons (pe_dget (hu_of hr) (pv 0) (pe_tup (pa_cons (pv 2) (pa_cons (pv 3) pa_nil))) (fun _ _ => rfl)) pa_nil))))))), ?_⟩
    refine ⟨a, _, hA, trivial, fun od => ?_⟩
    refine ⟨.ref a, rfl, a, od, rfl, .inr ⟨_, upd_same, fun D nD => ?_⟩⟩
    have hDd : D ≠ a := fun e => by subst e; rw [upd_same] at nD; cases nD
    have nDH : H D = none := by rw [upd_ne hDd] at nD; exact nD
    refine lc_it (n := (pt Pp).length) walk_keysT (fun i H2 => ∃ as, H2 D = some (.lst (as.map V.ref)) ∧ PairsAt H2 as (outsOf (Pp.take i) z) ∧ Same (upd H a (.frz od (.dT (pt Pp)))) H2)
      ⟨[], upd_same, ⟨rfl, fun i p e => by simp [outsOf] at e⟩, same_new nD⟩ (fun i H2 _ ⟨_, _, _, h⟩ => h a _ upd_same) ?_ ?_
    · rintro i x H2 H2' hi ⟨as, hD, hP, sm⟩ ⟨rfl, kk, v, qq, hkv, rfl, hq⟩
      obtain ⟨p, hp, rfl, rfl⟩ := pt_at hkv
      have hm := List.mem_of_getElem? hp
      have tk : Pp.take (i + 1) = Pp.take i ++ [p] := by rw [List.take_add_one, hp]; rfl
      have lA : as.length ≤ 200 := by
        rw [hP.1]
        unfold outsOf
        rw [List.length_map]
        refine Nat.le_trans (List.length_filter_le _ _) ?_
        rw [List.length_take]; omega
      refine ⟨qq, [.str p.1.1, .str p.1.2], rfl, SqT.of hq, rfl, .str p.1.1, [.str p.1.2], rfl, .str p.1.2, [], rfl, rfl, rfl, ?_⟩
      refine ⟨.str p.1.1, rfl, .str z, rfl, rfl, _, rfl, ?_⟩
      rw [decStr]
      refine ite2 (fun e => ?_) (fun e => ?_)
      · refine ⟨.str p.1.2, rfl, .ref a, rfl, .str p.1.1, rfl, .str p.1.2, rfl, (by show 2 ≤ sizeLine; decide), fun t1 nt1 => ?_⟩
        have sT1 := same_new (o := .tup [.str p.1.1, .str p.1.2]) nt1
        refine ⟨a, .int p.2, rfl, .inr ⟨_, Rl.pk p.1, t1, .inr ⟨od, sT1 a _ (sm a _ upd_same)⟩, rfl, upd_same, ?_⟩, (by show 2 ≤ sizeLine; decide), fun t nt => ?_⟩
        · rw [valV_pt, getP_of_mem nd (show (p.1, p.2) ∈ Pp from hm)]; rfl
        · have hD1 := sT1 D _ hD
          have nDt : D ≠ t := ne_of_none hD1 nt
          refine ⟨_, (by rw [upd_ne nDt]; exact hD1), (by rw [List.length_map]; exact small1000 (by omega)), as ++ [t], ?_, ?_, ?_⟩
          · rw [upd_same, List.map_append]; rfl
          · rw [tk]
            unfold outsOf
            rw [List.filter_append, List.map_append]
            show PairsAt _ _ (_ ++ List.map _ (List.filter _ [p]))
            rw [List.filter_cons, if_pos e]
            refine PairsAt.push (p := (p.1.2, p.2)) (hP.same sT1) (fun b xs eb => ?_) (by rw [upd_ne (Ne.symm nDt), upd_same])
            have nb : b ≠ D := fun z => by subst z; rw [hD1] at eb; cases eb
            rw [upd_ne nb, upd_ne (ne_of_none eb nt)]; exact eb
          · exact fun c o ec => by
              have nb : c ≠ D := ne_of_none ec nD
              have e1 := sT1 c o (sm c o ec)
              rw [upd_ne nb, upd_ne (ne_of_none e1 nt)]; exact e1
      · refine ⟨as, hD, ?_, sm⟩
        rw [tk]
        unfold outsOf
        rw [List.filter_append, List.map_append]
        show PairsAt _ _ (_ ++ List.map _ (List.filter _ [p]))
        rw [List.filter_cons, if_neg e]
        simpa [outsOf] using hP
    · rintro H2 ⟨as, hD, hP, sm⟩
      obtain ⟨l1, l2⟩ := same_lock hA sm
      refine ⟨l1, ?_⟩
      rw [show (pt Pp).length = Pp.length from List.length_map _, List.take_length] at hP
      have hD3 : (upd H2 a (.dT (pt Pp))) D = some (.lst (as.map V.ref)) := by rw [upd_ne hDd]; exact hD
      refine ⟨D, _, hD3, trivial, fun od2 => ?_⟩
      refine q _ D as od2 (fun c o ec => ?_) nDH upd_same ⟨hP.1, fun i p e => ?_⟩
      · rw [upd_ne (ne_of_none ec nDH)]; exact l2 c o ec
      obtain ⟨t, e1, e2⟩ := hP.2 i p e
      refine ⟨t, e1, ?_⟩
      have nt : t ≠ a := fun z => by subst z; rw [l1] at e2; cases e2
      have nt2 : t ≠ D := fun z => by subst z; rw [hD] at e2; cases e2
      rw [upd_ne nt2, upd_ne nt]; exact e2
theorem scPipesIn : FnScope ["pipes", "name", "one", "other"] ["pipes", "name"] (defScope sPipesIn) := ⟨rfl, rfl, rfl, by decide +kernel, rfl, by decide +kernel, by decide +kernel⟩
theorem ok_PipesIn {f : Addr} {fd : FuncData} {k : Nat} (F : Fun K "pipes_in" "pipes_in" sPipesIn f fd) : FnOk P w K mg base CX0 (k + 1) f fd ["pipes", "name"] (spSide insOf) := by
  refine F.ok scPipesIn (fun vs H Q E h => ?_) (fun cdv A outer s H vs Q E hr h => ?_)
  · obtain ⟨a, Pp, z, rfl, _⟩ := h
    rfl
  · obtain ⟨a, Pp, z, rfl, hA, nd, hl, q⟩ := h
    refine ⟨_, pss_one (ps_ret (pe_frz (pe_lock (pe_lc (own := [("one", 2), ("other", 3)]) (g := gTup K 2 (gCons (gName 2) (gCons (gName 3) gNil)))
      (tt := tTest (tOp rEq (tVar 3) (tVar 1))) (te := tTup (tCons (tVar 2) (tCons (tDGet (tVar 0) (tTup (tCons (tVar 2) (tCons (tVar 3) tNil)))) tNil))) rfl scPipesIn.nd (pi_keys (pv 0))
      (blkOk_by (N := ["pipes", "name", "one", "other"]) (sc := defScope sPipesIn) (by decide +kernel)) (fun _ _ _ _ _ => pg_tup rfl (pgs_cons (pg_name (i := 2) scPipesIn.nd rfl (Or.inl rfl)) (pgs_cons (pg_name (i := 3) scPipesIn.nd rfl (Or.inl rfl)) pgs_nil)))
      (fun _ _ _ _ _ => pts_one (pt_cmpR op_eq (pv 3) (pv 1) (nomark _)))
      (fun _ _ _ _ _ => pe_tup (pa_cons (pv 2) (pa_cons (pe_dget (hu_of hr) (pv 0) (pe_tup (pa_cons (pv 2) (pa_cons (pv 3) pa_nil))) (fun _ _ => rfl)) pa_nil))))))), ?_⟩
    refine ⟨a, _, hA, trivial, fun od => ?_⟩
    refine ⟨.ref a, rfl, a, od, rfl, .inr ⟨_, upd_same, fun D nD => ?_⟩⟩
    have hDd : D ≠ a := fun e => by subst e; rw [upd_same] at nD; cases nD
    have nDH : H D = none := by rw [upd_ne hDd] at nD; exact nD
    refine lc_it (n := (pt Pp).length) walk_keysT (fun i H2 => ∃ as, H2 D = some (.lst (as.map V.ref)) ∧ PairsAt H2 as (insOf (Pp.take i) z) ∧ Same (upd H a (.frz od (.dT (pt Pp)))) H2)
      ⟨[], upd_same, ⟨rfl, fun i p e => by simp [insOf] at e⟩, same_new nD⟩ (fun i H2 _ ⟨_, _, _, h⟩ => h a _ upd_same) ?_ ?_
    · rintro i x H2 H2' hi ⟨as, hD, hP, sm⟩ ⟨rfl, kk, v, qq, hkv, rfl, hq⟩
      obtain ⟨p, hp, rfl, rfl⟩ := pt_at hkv
      have hm := List.mem_of_getElem? hp
      have tk : Pp.take (i + 1) = Pp.take i ++ [p] := by rw [List.take_add_one, hp]; rfl
      have lA : as.length ≤ 200 := by
        rw [hP.1]
        unfold insOf
        rw [List.length_map]
        refine Nat.le_trans (List.length_filter_le _ _) ?_
        rw [List.length_take]; omega
      refine ⟨qq, [.str p.1.1, .str p.1.2], rfl, SqT.of hq, rfl, .str p.1.1, [.str p.1.2], rfl, .str p.1.2, [], rfl, rfl, rfl, ?_⟩
      refine ⟨.str p.1.2, rfl, .str z, rfl, rfl, _, rfl, ?_⟩
      rw [decStr]
      refine ite2 (fun e => ?_) (fun e => ?_)
      · refine ⟨.str p.1.1, rfl, .ref a, rfl, .str p.1.1, rfl, .str p.1.2, rfl, (by show 2 ≤ sizeLine; decide), fun t1 nt1 => ?_⟩
        have sT1 := same_new (o := .tup [.str p.1.1, .str p.1.2]) nt1
        refine ⟨a, .int p.2, rfl, .inr ⟨_, Rl.pk p.1, t1, .inr ⟨od, sT1 a _ (sm a _ upd_same)⟩, rfl, upd_same, ?_⟩, (by show 2 ≤ sizeLine; decide), fun t nt => ?_⟩
        · rw [valV_pt, getP_of_mem nd (show (p.1, p.2) ∈ Pp from hm)]; rfl
        · have hD1 := sT1 D _ hD
          have nDt : D ≠ t := ne_of_none hD1 nt
          refine ⟨_, (by rw [upd_ne nDt]; exact hD1), (by rw [List.length_map]; exact small1000 (by omega)), as ++ [t], ?_, ?_, ?_⟩
          · rw [upd_same, List.map_append]; rfl
          · rw [tk]
            unfold insOf
            rw [List.filter_append, List.map_append]
            show PairsAt _ _ (_ ++ List.map _ (List.filter _ [p]))
            rw [List.filter_cons, if_pos e]
            refine PairsAt.push (p := (p.1.1, p.2)) (hP.same sT1) (fun b xs eb => ?_) (by rw [upd_ne (Ne.symm nDt), upd_same])
            have nb : b ≠ D := fun z => by subst z; rw [hD1] at eb; cases eb
            rw [upd_ne nb, upd_ne (ne_of_none eb nt)]; exact eb
          · exact fun c o ec => by
              have nb : c ≠ D := ne_of_none ec nD
              have e1 := sT1 c o (sm c o ec)
              rw [upd_ne nb, upd_ne (ne_of_none e1 nt)]; exact e1
      · refine ⟨as, hD, ?_, sm⟩
        rw [tk]
        unfold insOf
        rw [List.filter_append, List.map_append]
        show PairsAt _ _ (_ ++ List.map _ (List.filter _ [p]))
        rw [List.filter_cons, if_neg e]
        simpa [insOf] using hP
    · rintro H2 ⟨as, hD, hP, sm⟩
      obtain ⟨l1, l2⟩ := same_lock hA sm
      refine ⟨l1, ?_⟩
      rw [show (pt Pp).length = Pp.length from List.length_map _, List.take_length] at hP
      have hD3 : (upd H2 a (.dT (pt Pp))) D = some (.lst (as.map V.ref)) := by rw [upd_ne hDd]; exact hD
      refine ⟨D, _, hD3, trivial, fun od2 => ?_⟩
      refine q _ D as od2 (fun c o ec => ?_) nDH upd_same ⟨hP.1, fun i p e => ?_⟩
      · rw [upd_ne (ne_of_none ec nDH)]; exact l2 c o ec
      obtain ⟨t, e1, e2⟩ := hP.2 i p e
      refine ⟨t, e1, ?_⟩
      have nt : t ≠ a := fun z => by subst z; rw [l1] at e2; cases e2
      have nt2 : t ≠ D := fun z => by subst z; rw [hD] at e2; cases e2
      rw [upd_ne nt2, upd_ne nt]; exact e2
end
end Nl
end
section
set_option maxHeartbeats 1000000
namespace Nl
open PySem PySem.Spec PyProof.Rows L2 Nt
/-! ### the object -/
theorem bw : ¬ (("brim_by_pond" : Str) = "width_by_pair") := by decide +kernel
theorem bo : ¬ (("brim_by_pond" : Str) = "outs_by_pond") := by decide +kernel
theorem bi : ¬ (("brim_by_pond" : Str) = "ins_by_pond") := by decide +kernel
theorem wo : ¬ (("width_by_pair" : Str) = "outs_by_pond") := by decide +kernel
theorem wi : ¬ (("width_by_pair" : Str) = "ins_by_pond") := by decide +kernel
theorem oi : ¬ (("outs_by_pond" : Str) = "ins_by_pond") := by decide +kernel
/-- where a net's other dicts stand: widths, outs, ins -/
structure Dd where
  w : Addr
  o : Addr
  i : Addr
def nf (d1 : Addr) (d2 : Dd) : List (Str × V) := putF "ins_by_pond" (.ref d2.i) (putF "outs_by_pond" (.ref d2.o) (putF "width_by_pair" (.ref d2.w) (putF "brim_by_pond" (.ref d1) [])))
theorem nf_b (d1 : Addr) (d2 : Dd) : (nf d1 d2).lookup ("brim_by_pond" : Str) = some (.ref d1) := by
  unfold nf
  rw [lookup_putF, if_neg bi, lookup_putF, if_neg bo, lookup_putF, if_neg bw, lookup_putF, if_pos rfl]
theorem nf_w (d1 : Addr) (d2 : Dd) : (nf d1 d2).lookup ("width_by_pair" : Str) = some (.ref d2.w) := by
  unfold nf
  rw [lookup_putF, if_neg wi, lookup_putF, if_neg wo, lookup_putF, if_pos rfl]
theorem nf_o (d1 : Addr) (d2 : Dd) : (nf d1 d2).lookup ("outs_by_pond" : Str) = some (.ref d2.o) := by
  unfold nf
  rw [lookup_putF, if_neg oi, lookup_putF, if_pos rfl]
theorem nf_i (d1 : Addr) (d2 : Dd) : (nf d1 d2).lookup ("ins_by_pond" : Str) = some (.ref d2.i) := by
  unfold nf
  rw [lookup_putF, if_pos rfl]
theorem nf_no (d1 : Addr) (d2 : Dd) {m : Str} (h1 : ¬ m = "width_by_pair") (h2 : ¬ m = "brim_by_pond") (h3 : ¬ m = "outs_by_pond") (h4 : ¬ m = "ins_by_pond") : (nf d1 d2).lookup m = none := by
  unfold nf
  rw [lookup_putF, if_neg h4, lookup_putF, if_neg h3, lookup_putF, if_neg h1, lookup_putF, if_neg h2]; rfl
/-- a dict from each pond to a list of pairs -/
def SideAt (H : Hp) (d : Addr) (g : Str → List (Str × Int)) (l : List Str) : Prop := ∃ ls : List (Str × Addr), H d = some (.dK (ls.map fun p => ((Sum.inr p.1 : Key), V.ref p.2))) ∧ ls.map Prod.fst = l ∧ ∀ p ∈ ls, ∃ as od, H p.2 = some (.frz od (.lst (as.map V.ref))) ∧ PairsAt H as (g p.1)
theorem SideAt.keep {H H' : Hp} {d : Addr} {g : Str → List (Str × Int)} {l : List Str} (h : SideAt H d g l) (kd : ∀ x, H d = some x → H' d = some x) (kl : ∀ b od xs, H b = some (.frz od (.lst xs)) → H' b = some (.frz od (.lst xs))) (kt : ∀ b xs, H b = some (.tup xs) → H' b = some (.tup xs)) : SideAt H' d g l := by
  obtain ⟨ls, a, b, c⟩ := h
  refine ⟨ls, kd _ a, b, fun p hp => ?_⟩
  obtain ⟨as, od, e1, e2⟩ := c p hp
  exact ⟨as, od, kl _ _ _ e1, e2.keep kt⟩
theorem SideAt.same {H H' : Hp} {d : Addr} {g : Str → List (Str × Int)} {l : List Str} (h : SideAt H d g l) (s : Same H H') : SideAt H' d g l := h.keep (fun _ e => s _ _ e) (fun _ _ _ e => s _ _ e) (fun _ _ e => s _ _ e)
structure NetAt (C : Addr) (H : Hp) (n : Addr) (B : Br) (Pp : Pi) : Prop where
  at_ : ∃ dx d1 d2, H n = some (.ins C dx (nf d1 d2)) ∧ H d1 = some (.dK (bk B)) ∧ H d2.w = some (.dT (pt Pp)) ∧ SideAt H d2.o (outsOf Pp) (nms B) ∧ SideAt H d2.i (insOf Pp) (nms B)
theorem NetAt.same {C : Addr} {H H' : Hp} {n : Addr} {B : Br} {Pp : Pi} (h : NetAt C H n B Pp) (s : Same H H') : NetAt C H' n B Pp := by
  obtain ⟨dx, d1, d2, a, b, c, e, f⟩ := h
  exact ⟨dx, d1, d2, s _ _ a, s _ _ b, s _ _ c, e.same s, f.same s⟩
/-- a net that is let -/
structure Good (B : Br) (Pp : Pi) : Prop where
  wf : Wf Nm B Pp
  fit : Fit B Pp
  op : ∀ x ∈ nms B, Opn B Pp x
theorem Good.perm {B B' : Br} {P P' : Pi} (h : Good B P) (hB : B.Perm B') (hP : P.Perm P') : Good B' P' where
  wf := h.wf.perm hB hP
  fit := fun p hp => by
    have := h.fit p (hB.mem_iff.mpr hp)
    rw [outW_perm hP, inW_perm hP] at this
    exact this
  op := fun x hx => (h.op x ((hB.map Prod.fst).mem_iff.mpr hx)).perm hB hP
structure TxN (K : PySem.W.Frag) (mg : Str → Option Value) (C : Addr) : Prop where
  cl : Cls K C
  nB : NoAttr K C "brim_by_pond"
  nW : NoAttr K C "width_by_pair"
  nO : NoAttr K C "outs_by_pond"
  nI : NoAttr K C "ins_by_pond"
  mgC : mg "Net" = some (.ref C)
theorem nms_len' (B : Br) : (nms B).length = B.length := List.length_map _
def reB (B : Br) (ys : List Str) : Br := ys.map fun x => (x, (getB B x).getD 0)
theorem reB_perm {B : Br} (nd : (nms B).Nodup) {ys : List Str} (pm : ys.Perm (nms B)) : (reB B ys).Perm B := by
  have h1 : (reB B ys).Perm (reB B (nms B)) := pm.map _
  have h2 : reB B (nms B) = B := by
    unfold reB nms
    rw [List.map_map]
    conv => rhs; rw [← List.map_id B]
    refine List.map_congr_left fun p hp => ?_
    show (p.1, (getB B p.1).getD 0) = p
    rw [getB_of_mem nd (show (p.1, p.2) ∈ B from hp)]; rfl
  rw [h2] at h1
  exact h1
def reP (Pp : Pi) (qs : List (Str × Str)) : Pi := qs.map fun q => (q, (getP Pp q).getD 0)
theorem reP_perm {Pp : Pi} (nd : (Pp.map Prod.fst).Nodup) {qs : List (Str × Str)} (pm : qs.Perm (Pp.map Prod.fst)) : (reP Pp qs).Perm Pp := by
  have h1 : (reP Pp qs).Perm (reP Pp (Pp.map Prod.fst)) := pm.map _
  have h2 : reP Pp (Pp.map Prod.fst) = Pp := by
    unfold reP
    rw [List.map_map]
    conv => rhs; rw [← List.map_id Pp]
    refine List.map_congr_left fun p hp => ?_
    show (p.1, (getP Pp p.1).getD 0) = p
    rw [getP_of_mem nd (show (p.1, p.2) ∈ Pp from hp)]; rfl
  rw [h2] at h1
  exact h1
theorem pt_append (S T : Pi) : pt (S ++ T) = pt S ++ pt T := List.map_append
theorem pt_len (S : Pi) : (pt S).length = S.length := List.length_map _
theorem getP_none {Pp : Pi} {q : Str × Str} (h : q ∉ Pp.map Prod.fst) : getP Pp q = none := by
  unfold getP
  rw [List.find?_eq_none.mpr (fun p hp => by
    have : p.1 ≠ q := fun e => h (List.mem_map.mpr ⟨p, hp, e⟩)
    simpa using this)]
  rfl
theorem putK_pt {S : Pi} {q : Str × Str} {n : Int} (h : q ∉ S.map Prod.fst) : putK (pt S) (Rl.pk q) (.int n) = pt (S ++ [(q, n)]) := by
  rw [putK_new _ (by rw [valV_pt, getP_none h]; rfl), pt_append]; rfl
theorem take_nd {α : Type} {l : List α} (nd : l.Nodup) {i : Nat} {x : α} (h : l[i]? = some x) : x ∉ l.take i := by
  intro m
  have h2 : (l.take (i + 1)).Nodup := List.Nodup.sublist (List.take_sublist _ _) nd
  rw [List.take_add_one, h, List.nodup_append] at h2
  exact h2.2.2 x m x (List.mem_singleton.mpr rfl) rfl
section
variable {P : Program} {w : World} {K : PySem.W.Frag} {mg : Str → Option Value} {base : Heap}
theorem scNInit : FnScope ["self", "brims", "pipes", "laid", "name", "one", "other"] ["self", "brims", "pipes"] (defScope mNet_init) := ⟨rfl, rfl, rfl, by decide +kernel, rfl, by decide +kernel, by decide +kernel⟩
def spNInit (C : Addr) : Sp := fun vs H Q _ => ∃ (n dx a b : Addr) (B : Br) (Pp : Pi), vs = [.ref n, .ref a, .ref b] ∧ H n = some (.ins C dx []) ∧ H a = some (.dK (bk B)) ∧ H b = some (.dT (pt Pp)) ∧ Good B Pp ∧
  ∀ (H' : Hp) (B' : Br) (P' : Pi), NetAt C H' n B' P' → B'.Perm B → P'.Perm Pp → sortedS (nms B') = true → (P'.map Prod.fst).Pairwise (fun x y => Rl.ltP y x = false) → (∃ dx' d1 d2, H' n = some (.ins C dx' (nf d1 d2)) ∧ H d1 = none ∧ H d2.o = none ∧ H d2.i = none) → (∀ b o, H b = some o → b ≠ n → H' b = some o) → Q .non H'
/-- the net's fields behind each of the four stores -/
theorem f2_b (d1 d2 : Addr) : (putF "width_by_pair" (.ref d2) (putF "brim_by_pond" (.ref d1) [])).lookup ("brim_by_pond" : Str) = some (V.ref d1) := by
  rw [lookup_putF, if_neg bw, lookup_putF, if_pos rfl]
theorem f2_w (d1 d2 : Addr) : (putF "width_by_pair" (.ref d2) (putF "brim_by_pond" (.ref d1) [])).lookup ("width_by_pair" : Str) = some (V.ref d2) := by
  rw [lookup_putF, if_pos rfl]
theorem f3_b (d1 d2 d3 : Addr) : (putF "outs_by_pond" (.ref d3) (putF "width_by_pair" (.ref d2) (putF "brim_by_pond" (.ref d1) []))).lookup ("brim_by_pond" : Str) = some (V.ref d1) := by
  rw [lookup_putF, if_neg bo, f2_b]
theorem f3_w (d1 d2 d3 : Addr) : (putF "outs_by_pond" (.ref d3) (putF "width_by_pair" (.ref d2) (putF "brim_by_pond" (.ref d1) []))).lookup ("width_by_pair" : Str) = some (V.ref d2) := by
  rw [lookup_putF, if_neg wo, f2_w]
theorem rk_val {ls : List (Str × Addr)} {z : Str} (h : z ∉ ls.map Prod.fst) : valV (ls.map fun p => ((Sum.inr p.1 : Key), V.ref p.2)) (Sum.inr z) = none := by
  unfold valV
  rw [List.find?_eq_none.mpr (fun p hp => by
    obtain ⟨q, hq, rfl⟩ := List.mem_map.mp hp
    have : q.1 ≠ z := fun e => h (List.mem_map.mpr ⟨q, hq, e⟩)
    simpa using this)]
  rfl
/-- {name: f(..) for name in d}, where each value is a new list of pairs -/
theorem side_dc {B : Br} {g : Str → List (Str × Int)} {d D : Addr} {od : Obj} {H1 : Hp} {σ : L2.St} {tv : TE} {j : Nat} {Qd : Hp → Prop} (nd : (nms B).Nodup) (ln : B.length ≤ 12) (he : H1 d = some (.frz od (.dK (bk B)))) (nD : H1 D = none)
    (hj : ∀ z : Str, ((wipe σ [j]).set j (some (.str z)))[j]? = some (some (V.str z))) (hw : ∀ z : Str, wipe ((wipe σ [j]).set j (some (.str z))) [j] = wipe σ [j])
    (ht : ∀ (z : Str) (H2 : Hp) (R : V → Hp → Prop), z ∈ nms B → Same H1 H2 → (∀ H3 p as od, Same H2 H3 → H2 p = none → H3 p = some (.frz od (.lst (as.map V.ref))) → PairsAt H3 as (g z) → R (.ref p) H3) → tv ((wipe σ [j]).set j (some (.str z))) H2 R)
    (hd : ∀ H2, SideAt H2 D g (nms B) → Same H1 H2 → Qd H2) :
    ∃ W : Nat → Nat → Hp → Prop, (∃ m, W 0 m (upd H1 D (.dK []))) ∧ ∀ i m H, W i m H →
      ((Itk d od (bk B)).stop i H ∧ Qd H) ∨ ((Itk d od (bk B)).go i H ∧ ∃ Nx : Hp → Prop, (∀ H', Nx H' → ∃ m', m' < m ∧ W (i + 1) m' H') ∧
        ∀ x H', (Itk d od (bk B)).yld i H x H' → gName j x (wipe σ [j]) H' fun σ2 H2 => wipe σ2 [j] = wipe σ [j] ∧ tYes σ2 H2 fun b H3 => if b = true then Rl.tbD (tVar j) tv D σ2 H3 Nx else Nx H3) := by
  refine Rl.gc_it (n := (bk B).length) (b0 := fun _ => .dK []) walk_keys (fun i H2 => SideAt H2 D g ((nms B).take i) ∧ Same H1 H2) ⟨⟨[], upd_same, rfl, fun p hp => (List.not_mem_nil hp).elim⟩, same_new nD⟩ (fun i H2 _ h => h.2 d _ he) ?_ ?_
  · rintro i x H2 H2' hi ⟨⟨ls, hD, hk, hl⟩, sm⟩ ⟨rfl, kk, v, hkv, rfl⟩
    obtain ⟨p, hp, rfl, rfl⟩ := bk_at hkv
    have hn : (nms B)[i]? = some p.1 := by unfold nms; rw [List.getElem?_map, hp]; rfl
    refine ⟨hw p.1, ?_⟩
    show Rl.tbD (tVar j) tv D (List.set (wipe σ [j]) j (some (V.str p.1))) H2' fun H2 => SideAt H2 D g ((nms B).take (i + 1)) ∧ Same H1 H2
    refine ⟨.str p.1, hj p.1, ht p.1 H2' _ (List.mem_of_getElem? hn) sm fun H3 q as oq s3 nq hq hP => ⟨_, DPut.k (k := Sum.inr p.1) (s3 D _ hD) ?_, ?_, ?_⟩⟩
    · rw [List.length_map]
      have e1 := congrArg List.length hk
      rw [List.length_map, List.length_take] at e1
      exact small1000 (by have : (nms B).length = B.length := List.length_map _; omega)
    · have fr : p.1 ∉ ls.map Prod.fst := by rw [hk]; exact take_nd nd hn
      have hD3 := s3 D _ hD
      have kl : ∀ b od xs, H3 b = some (.frz od (.lst xs)) → (upd H3 D (.dK (putK (ls.map fun p => ((Sum.inr p.1 : Key), V.ref p.2)) (Sum.inr p.1) (.ref q)))) b = some (.frz od (.lst xs)) := fun b od xs e => by
        rw [upd_ne (fun z => by subst z; rw [hD3] at e; cases e)]; exact e
      have kt : ∀ b xs, H3 b = some (.tup xs) → (upd H3 D (.dK (putK (ls.map fun p => ((Sum.inr p.1 : Key), V.ref p.2)) (Sum.inr p.1) (.ref q)))) b = some (.tup xs) := fun b xs e => by
        rw [upd_ne (fun z => by subst z; rw [hD3] at e; cases e)]; exact e
      refine ⟨ls ++ [(p.1, q)], ?_, ?_, fun r hr => ?_⟩
      · rw [upd_same, putK_new _ (rk_val fr), List.map_append]; rfl
      · rw [List.map_append, hk, List.take_add_one, hn]; rfl
      · rcases List.mem_append.mp hr with hr | hr
        · obtain ⟨as', od', e1, e2⟩ := hl r hr
          exact ⟨as', od', kl _ _ _ (s3 _ _ e1), (e2.same s3).keep kt⟩
        · have er : r = (p.1, q) := by simpa using hr
          subst er
          exact ⟨as, oq, kl _ _ _ hq, hP.keep kt⟩
    · exact fun c o ec => by
        have nb : c ≠ D := ne_of_none ec nD
        rw [upd_ne nb]; exact s3 c o (sm c o ec)
  · rintro H2 ⟨S, sm⟩
    rw [bk_len, ← nms_len', List.take_length] at S
    exact hd H2 S sm
/-- and the dict that was walked is itself again -/
theorem SideAt.unlock {H1 : Hp} {d D : Addr} {od : Obj} {u : List (Key × V)} {g : Str → List (Str × Int)} {l : List Str} (S : SideAt H1 D g l) (l1 : H1 d = some (.frz od (.dK u))) : SideAt (upd H1 d (.dK u)) D g l := by
  have k : ∀ {b : Addr} {o : HO}, H1 b = some o → (∀ od v, o ≠ .frz od (.dK v)) → (upd H1 d (.dK u)) b = some o := fun {b o} e no => by
    rw [upd_ne (fun z => by subst z; rw [l1] at e; exact no _ _ (Option.some.inj e).symm)]; exact e
  obtain ⟨ls, a, b, c⟩ := S
  refine ⟨ls, k a (fun _ v e => by cases e), b, fun p hp => ?_⟩
  obtain ⟨as, oq, e1, e2⟩ := c p hp
  exact ⟨as, oq, k e1 (fun _ v e => by cases e), e2.keep fun b xs e => k e (fun _ v e => by cases e)⟩
theorem ok_nInit {f C f1 f2 f3 f4 f5 f6 : Addr} {fd fd1 fd2 fd3 fd4 fd5 fd6 : FuncData} (F : FunD K "__init__" "Net.__init__" (defArgs mNet_init) (defBody mNet_init) (defScope mNet_init) [.non] [] f fd) (T : TxN K mg C)
    (F1 : Fun K "check_ponds" "check_ponds" sCkPonds f1 fd1) (G1 : FnOk P w K mg base CX0 3 f1 fd1 ["brims"] spCkPonds) (b1 : Binds K fd1 ["brims"] []) (g1 : mg "check_ponds" = some (.ref f1))
    (F2 : Fun K "check_pipes" "check_pipes" sCkPipes f2 fd2) (G2 : FnOk P w K mg base CX0 4 f2 fd2 ["brims", "pipes"] (spCk2 fun _ _ => True)) (b2 : Binds K fd2 ["brims", "pipes"] []) (g2 : mg "check_pipes" = some (.ref f2))
    (F3 : Fun K "check_sides" "check_sides" sCkSides f3 fd3) (G3 : FnOk P w K mg base CX0 2 f3 fd3 ["brims", "pipes"] (spCk2 Fit)) (b3 : Binds K fd3 ["brims", "pipes"] []) (g3 : mg "check_sides" = some (.ref f3))
    (F4 : Fun K "check_ways" "check_ways" sCkWays f4 fd4) (G4 : FnOk P w K mg base CX0 3 f4 fd4 ["brims", "pipes"] (spCk2 fun B Pp => ∀ x ∈ nms B, Opn B Pp x)) (b4 : Binds K fd4 ["brims", "pipes"] []) (g4 : mg "check_ways" = some (.ref f4))
    (F5 : Fun K "pipes_out" "pipes_out" sPipesOut f5 fd5) (G5 : FnOk P w K mg base CX0 1 f5 fd5 ["pipes", "name"] (spSide outsOf)) (b5 : Binds K fd5 ["pipes", "name"] []) (g5 : mg "pipes_out" = some (.ref f5))
    (F6 : Fun K "pipes_in" "pipes_in" sPipesIn f6 fd6) (G6 : FnOk P w K mg base CX0 1 f6 fd6 ["pipes", "name"] (spSide insOf)) (b6 : Binds K fd6 ["pipes", "name"] []) (g6 : mg "pipes_in" = some (.ref f6))
    (mi : mg "isinstance" = none) (md : mg "dict" = none) (ms : mg "sorted" = none) : FnOk P w K mg base CX0 5 f fd ["self", "brims", "pipes"] (spNInit C) := by
  refine F.ok scNInit (fun vs H Q E h => ?_) (fun cdv A outer s H vs Q E hr h => ?_)
  · obtain ⟨n, dx, a, b, B, Pp, rfl, _⟩ := h
    rfl
  · obtain ⟨n, dx, a, b, B, Pp, rfl, hn, hA, hB, good, q⟩ := h
    have hu := hu_of hr
    have wf := good.wf
    refine ⟨_, PSs.nox (pss_cons (ps_set (i := 3) scNInit.nd rfl (.inr rfl) (pe_ifExp (pt_cmp (pc_isN (pv 2))) pe_dnewT (pv 2)))
      (pss_cons (ps_if (PW.pt (pw_or (pt_not (pt_val (pe_callB call_isi (by rfl) mi (by decide +kernel) (pa_cons (pv 1) (pa_cons (pe_bltn (v := .ty "dict") (by rfl) md (by decide +kernel) rfl) pa_nil)))))
        (pw_or1 (pt_not (pt_val (pe_callB call_isi (by rfl) mi (by decide +kernel) (pa_cons (pv 3) (pa_cons (pe_bltn (v := .ty "dict") (by rfl) md (by decide +kernel) rfl) pa_nil)))))))) (pss_one ps_never) pss_nil)
      (pss_cons (ps_expr (pe_call G1 (hr.mono (by decide)) (by rfl) g1 F1.kp b1 .nil pass0 (pa_cons (pv 1) pa_nil)))
      (pss_cons (ps_expr (pe_call G2 hr (by rfl) g2 F2.kp b2 .nil pass0 (pa_cons (pv 1) (pa_cons (pv 3) pa_nil))))
      (pss_cons (ps_expr (pe_call G3 (hr.mono (by decide)) (by rfl) g3 F3.kp b3 .nil pass0 (pa_cons (pv 1) (pa_cons (pv 3) pa_nil))))
      (pss_cons (ps_expr (pe_call G4 (hr.mono (by decide)) (by rfl) g4 F4.kp b4 .nil pass0 (pa_cons (pv 1) (pa_cons (pv 3) pa_nil))))
      (pss_cons (ps_fld (pv 0) (Rl.pe_dcP (T := .dK []) (own := [("name", 4)]) (g := gName 4) (tt := tYes) (.inr rfl) hr rfl scNInit.nd (pi_list (pe_callB (call_sortedD rfl) (by rfl) ms (by decide +kernel) (pa_cons (pv 1) pa_nil)))
        (blkOk_by (N := ["self", "brims", "pipes", "laid", "name", "one", "other"]) (sc := defScope mNet_init) (by decide +kernel)) (fun _ _ _ _ _ => pg_name (i := 4) scNInit.nd rfl (Or.inl rfl)) (fun _ _ _ _ _ => pts_nil)
        (fun _ _ _ _ _ => pv 4) (fun _ _ _ _ _ => pe_dget hu (pv 1) (pv 4) (fun _ _ => rfl))) rfl)
      (pss_cons (ps_fld (pv 0) (Rl.pe_dcP (T := .dT []) (own := [("one", 5), ("other", 6)]) (g := gTup K 2 (gCons (gName 5) (gCons (gName 6) gNil))) (tt := tYes) (.inl rfl) hr rfl scNInit.nd (pi_list (pe_callB (Rl.call_sortD rfl) (by rfl) ms (by decide +kernel) (pa_cons (pv 3) pa_nil)))
        (blkOk_by (N := ["self", "brims", "pipes", "laid", "name", "one", "other"]) (sc := defScope mNet_init) (by decide +kernel)) (fun _ _ _ _ _ => pg_tup rfl (pgs_cons (pg_name (i := 5) scNInit.nd rfl (Or.inl rfl)) (pgs_cons (pg_name (i := 6) scNInit.nd rfl (Or.inl rfl)) pgs_nil))) (fun _ _ _ _ _ => pts_nil)
        (fun _ _ _ _ _ => pe_tup (pa_cons (pv 5) (pa_cons (pv 6) pa_nil))) (fun _ _ _ _ _ => pe_dget hu (pv 3) (pe_tup (pa_cons (pv 5) (pa_cons (pv 6) pa_nil))) (fun _ _ => rfl))) rfl)
      (pss_cons (ps_fld (pv 0) (pe_lock (Rl.pe_dcP (T := .dK []) (own := [("name", 4)]) (g := gName 4) (tt := tYes) (tk := tVar 4) (tv := tCall (spSide outsOf) [] (fun _ _ _ => False) (tCons (tFld K (tVar 0) "width_by_pair") (tCons (tVar 4) tNil))) (.inr rfl) hr rfl scNInit.nd (pi_keys (pe_fld (pv 0) rfl))
        (blkOk_by (N := ["self", "brims", "pipes", "laid", "name", "one", "other"]) (sc := defScope mNet_init) (by decide +kernel)) (fun _ _ _ _ _ => pg_name (i := 4) scNInit.nd rfl (Or.inl rfl)) (fun _ _ _ _ _ => pts_nil)
        (fun _ _ _ _ _ => pv 4) (fun _ _ _ _ _ => pe_call G5 (hr.mono (by decide)) (by rfl) g5 F5.kp b5 .nil pass0 (pa_cons (pe_fld (pv 0) rfl) (pa_cons (pv 4) pa_nil))))) rfl)
      (pss_one (ps_fld (pv 0) (pe_lock (Rl.pe_dcP (T := .dK []) (own := [("name", 4)]) (g := gName 4) (tt := tYes) (tk := tVar 4) (tv := tCall (spSide insOf) [] (fun _ _ _ => False) (tCons (tFld K (tVar 0) "width_by_pair") (tCons (tVar 4) tNil))) (.inr rfl) hr rfl scNInit.nd (pi_keys (pe_fld (pv 0) rfl))
        (blkOk_by (N := ["self", "brims", "pipes", "laid", "name", "one", "other"]) (sc := defScope mNet_init) (by decide +kernel)) (fun _ _ _ _ _ => pg_name (i := 4) scNInit.nd rfl (Or.inl rfl)) (fun _ _ _ _ _ => pts_nil)
        (fun _ _ _ _ _ => pv 4) (fun _ _ _ _ _ => pe_call G6 (hr.mono (by decide)) (by rfl) g6 F6.kp b6 .nil pass0 (pa_cons (pe_fld (pv 0) rfl) (pa_cons (pv 4) pa_nil))))) rfl))))))))))), ?_⟩
    -- laid
    refine ⟨.ref b, rfl, false, rfl, iteF ⟨.ref b, rfl, ?_⟩⟩
    refine ⟨.ref a, rfl, .ref a, .ty "dict", .type "dict", .type "dict", true, rfl, .ty _, .base (.dK hA), kit_ty (by decide +kernel), true, rfl, iteF ?_⟩
    refine ⟨.ref b, rfl, .ref b, .ty "dict", .type "dict", .type "dict", true, rfl, .ty _, .base (.dT hB), kit_ty (by decide +kernel), true, rfl, iteF ?_⟩
    refine ⟨.ref a, rfl, a, B, Pp, rfl, hA, wf, fun H1 s1 => ?_⟩
    refine ⟨.ref a, rfl, .ref b, rfl, a, b, B, Pp, rfl, s1 a _ hA, s1 b _ hB, wf, trivial, fun H2 s2 => ?_⟩
    have s12 := s1.trans s2
    refine ⟨.ref a, rfl, .ref b, rfl, a, b, B, Pp, rfl, s12 a _ hA, s12 b _ hB, wf, good.fit, fun H3 s3 => ?_⟩
    have s13 := s12.trans s3
    refine ⟨.ref a, rfl, .ref b, rfl, a, b, B, Pp, rfl, s13 a _ hA, s13 b _ hB, wf, good.op, fun H4 s4 => ?_⟩
    have s14 := s13.trans s4
    -- self.brim_by_pond
    refine ⟨.ref a, rfl, a, _, nms B, rfl, .inl (s14 a _ hA), ?_, ?_, fun ys e pm srt ne => ?_⟩
    · unfold bk nms
      rw [List.map_map, List.map_map]; rfl
    · show (B.map _).length < 64
      rw [List.length_map]; have := wf.lb; omega
    have ndy : ys.Nodup := pm.nodup_iff.mpr wf.nb
    have sE := same_new (o := .lst (ys.map V.str)) ne
    refine ⟨e, rfl, ⟨_, SqL.of upd_same⟩, fun D nD => ?_⟩
    refine Rl.gc_it (b0 := fun _ => .dK []) (walk_list (K := K) (a := e) (xs := ys.map V.str)) (fun i H5 => H5 D = some (.dK (bk (reB B (ys.take i)))) ∧ Same (upd H4 e (.lst (ys.map V.str))) H5) ⟨upd_same, same_new nD⟩ (fun i H5 _ h => SqL.of (h.2 e _ upd_same)) ?_ ?_
    · rintro i x H5 H5' hi ⟨hD, sm⟩ ⟨rfl, hx⟩
      rw [List.getElem?_map] at hx
      cases hy : ys[i]? with
      | none => rw [hy] at hx; cases hx
      | some z =>
        rw [hy] at hx
        have hx' : V.str z = x := Option.some.inj hx
        subst hx'
        obtain ⟨c, hc⟩ := getB_some (pm.mem_iff.mp (List.mem_of_getElem? hy))
        refine ⟨rfl, .str z, rfl, .ref a, rfl, .str z, rfl, a, .int c, rfl, .inl ⟨_, Sum.inr z, .inl (sm a _ (sE a _ (s14 a _ hA))), rfl, by rw [valV_bk, hc]; rfl⟩, _, DPut.k (k := Sum.inr z) hD ?_, ?_, ?_⟩
        · rw [bk_len]
          unfold reB
          rw [List.length_map, List.length_take]
          have := pm.length_eq
          have h2 : (nms B).length = B.length := List.length_map _
          have := wf.lb
          exact small1000 (by omega)
        · have fr : z ∉ nms (reB B (ys.take i)) := by
            unfold nms reB
            rw [List.map_map]
            intro m
            obtain ⟨u, hu', eu⟩ := List.mem_map.mp m
            exact take_nd ndy hy (by rw [← (show u = z from eu)]; exact hu')
          rw [upd_same, putK_bk fr, List.take_add_one, hy]
          unfold reB
          rw [List.map_append]
          show _ = some (HO.dK (bk (_ ++ [(z, (getB B z).getD 0)])))
          rw [hc]; rfl
        · exact fun c' o ec => by
            have nb : c' ≠ D := ne_of_none ec nD
            rw [upd_ne nb]; exact sm c' o ec
    · rintro H5 ⟨hD, sm⟩
      rw [List.length_map, List.take_length] at hD
      have s15 : Same H H5 := s14.trans (sE.trans sm)
      have nDn : n ≠ D := ne_of_none (sE n _ (s14 n _ hn)) nD
      refine ⟨.ref n, rfl, n, C, dx, [], rfl, s15 n _ hn, T.cl, T.nB, by decide, ?_⟩
      have hnb : n ≠ b := fun z => by subst z; rw [hn] at hB; cases hB
      have hna : n ≠ a := fun z => by subst z; rw [hn] at hA; cases hA
      have hB6 : (upd H5 n (.ins C dx (putF "brim_by_pond" (.ref D) []))) b = some (.dT (pt Pp)) := by rw [upd_ne (Ne.symm hnb)]; exact s15 b _ hB
      have hn6 : (upd H5 n (.ins C dx (putF "brim_by_pond" (.ref D) []))) n = some (.ins C dx (putF "brim_by_pond" (.ref D) [])) := upd_same
      have hD6 : (upd H5 n (.ins C dx (putF "brim_by_pond" (.ref D) []))) D = some (.dK (bk (reB B ys))) := by rw [upd_ne (Ne.symm nDn)]; exact hD
      have k6 : ∀ c o, H c = some o → c ≠ n → (upd H5 n (.ins C dx (putF "brim_by_pond" (.ref D) []))) c = some o := fun c o ec nc => by rw [upd_ne nc]; exact s15 c o ec
      obtain ⟨H6, hH6⟩ : ∃ H6, H6 = upd H5 n (.ins C dx (putF "brim_by_pond" (.ref D) [])) := ⟨_, rfl⟩
      rw [← hH6] at hB6 hn6 hD6 k6
      rw [← hH6]
      -- self.width_by_pair
      refine ⟨.ref b, rfl, b, _, Pp.map Prod.fst, rfl, .inl hB6, ?_, ?_, fun qs e2 pm2 srt2 hqs ne2 => ?_⟩
      · unfold pt
        rw [List.map_map, List.map_map]; rfl
      · rw [List.length_map]; have := wf.lp; omega
      have ndq : (qs.map (·.2)).Nodup := pm2.nodup_iff.mpr wf.np
      have ql : qs.length = Pp.length := by
        have := pm2.length_eq
        simpa using this
      have sF := same_new (o := .lst (qs.map fun q => V.ref q.1)) ne2
      refine ⟨e2, rfl, ⟨_, SqL.of upd_same⟩, fun D2 nD2 => ?_⟩
      refine Rl.gc_it (b0 := fun _ => .dT []) (walk_list (K := K) (a := e2) (xs := qs.map fun q => V.ref q.1)) (fun i H7 => H7 D2 = some (.dT (pt (reP Pp ((qs.map (·.2)).take i)))) ∧ Same (upd H6 e2 (.lst (qs.map fun q => V.ref q.1))) H7) ⟨upd_same, same_new nD2⟩ (fun i H7 _ h => SqL.of (h.2 e2 _ upd_same)) ?_ ?_
      · rintro i x H7 H7' hi ⟨hD2, sm2⟩ ⟨rfl, hx⟩
        rw [List.getElem?_map] at hx
        cases hy : qs[i]? with
        | none => rw [hy] at hx; cases hx
        | some z =>
          rw [hy] at hx
          have hx' : V.ref z.1 = x := Option.some.inj hx
          subst hx'
          have hzt := sm2 z.1 _ (sF z.1 _ (hqs z (List.mem_of_getElem? hy)))
          have hy2 : (qs.map (·.2))[i]? = some z.2 := by rw [List.getElem?_map, hy]; rfl
          obtain ⟨p, hp, ez⟩ := List.mem_map.mp (pm2.mem_iff.mp (List.mem_of_getElem? hy2))
          have gz : getP Pp z.2 = some p.2 := getP_of_mem wf.np (by rw [← (show p.1 = z.2 from ez)]; exact hp)
          refine ⟨z.1, [.str z.2.1, .str z.2.2], rfl, SqT.of hzt, rfl, .str z.2.1, [.str z.2.2], rfl, .str z.2.2, [], rfl, rfl, rfl, ?_⟩
          refine ⟨.str z.2.1, rfl, .str z.2.2, rfl, (by show 2 ≤ sizeLine; decide), fun t1 nt1 => ?_⟩
          have n1D : t1 ≠ D2 := Ne.symm (ne_of_none hD2 nt1)
          refine ⟨.ref b, rfl, .str z.2.1, rfl, .str z.2.2, rfl, (by show 2 ≤ sizeLine; decide), fun t2 nt2 => ?_⟩
          have n2D : t2 ≠ D2 := Ne.symm (ne_of_none (show (upd H7' t1 (.tup [.str z.2.1, .str z.2.2])) D2 = _ by rw [upd_ne (Ne.symm n1D)]; exact hD2) nt2)
          have n12 : t1 ≠ t2 := ne_of_none (o := .tup [.str z.2.1, .str z.2.2]) upd_same nt2
          have sT := (same_new (o := .tup [.str z.2.1, .str z.2.2]) nt1).trans (same_new (o := .tup [.str z.2.1, .str z.2.2]) nt2)
          refine ⟨b, .int p.2, rfl, .inr ⟨_, Rl.pk z.2, t2, .inl (sT b _ (sm2 b _ (sF b _ hB6))), rfl, upd_same, by rw [valV_pt, gz]; rfl⟩, _, DPut.t (k := Rl.pk z.2) (sT D2 _ hD2) (by rw [upd_ne n12, upd_same]; rfl) ?_, ?_, ?_⟩
          · rw [pt_len]
            unfold reP
            rw [List.length_map, List.length_take, List.length_map]
            have := wf.lp
            exact small1000 (by omega)
          · have fr : z.2 ∉ (reP Pp ((qs.map (·.2)).take i)).map Prod.fst := by
              unfold reP
              rw [List.map_map]
              intro m
              obtain ⟨u, hu', eu⟩ := List.mem_map.mp m
              exact take_nd ndq hy2 (by rw [← (show u = z.2 from eu)]; exact hu')
            rw [upd_same, putK_pt fr, List.take_add_one, hy2]
            unfold reP
            rw [List.map_append]
            show _ = some (HO.dT (pt (_ ++ [(z.2, (getP Pp z.2).getD 0)])))
            rw [gz]; rfl
          · exact fun c' o ec => by
              have nb : c' ≠ D2 := ne_of_none ec nD2
              rw [upd_ne nb]; exact sT c' o (sm2 c' o ec)
      · rintro H7 ⟨hD2, sm2⟩
        rw [List.length_map, show qs.length = (qs.map (·.2)).length from (List.length_map _).symm, List.take_length] at hD2
        have s67 : Same H6 H7 := sF.trans sm2
        have nD2n : n ≠ D2 := ne_of_none (sF n _ hn6) nD2
        have hnD' : n ≠ D := nDn
        refine ⟨.ref n, rfl, n, C, dx, _, rfl, s67 n _ hn6, T.cl, T.nW, (by show 1 < 1000; decide), ?_⟩
        have eP : (reP Pp (qs.map (·.2))).map Prod.fst = qs.map (·.2) := by
          unfold reP
          rw [List.map_map]
          exact List.map_id' _
        have eB : nms (reB B ys) = ys := by
          unfold nms reB
          rw [List.map_map]
          exact List.map_id' _
        have s17 : ∀ c o, H c = some o → c ≠ n → H7 c = some o := fun c o ec nc => s67 c o (k6 c o ec nc)
        have gd2 : Good (reB B ys) (reP Pp (qs.map (·.2))) := good.perm (reB_perm wf.nb pm).symm (reP_perm wf.np pm2).symm
        have wf2 := gd2.wf
        -- what stands behind the second store
        obtain ⟨H8, hH8⟩ : ∃ H8, H8 = upd H7 n (.ins C dx (putF "width_by_pair" (.ref D2) (putF "brim_by_pond" (.ref D) []))) := ⟨_, rfl⟩
        have hn8 : H8 n = some (.ins C dx (putF "width_by_pair" (.ref D2) (putF "brim_by_pond" (.ref D) []))) := by rw [hH8, upd_same]
        have hD8 : H8 D = some (.dK (bk (reB B ys))) := by rw [hH8, upd_ne (Ne.symm nDn)]; exact s67 D _ hD6
        have hW8 : H8 D2 = some (.dT (pt (reP Pp (qs.map (·.2))))) := by rw [hH8, upd_ne (Ne.symm nD2n)]; exact hD2
        have k8 : ∀ c o, H c = some o → c ≠ n → H8 c = some o := fun c o ec nc => by rw [hH8, upd_ne nc]; exact s17 c o ec nc
        rw [← hH8]
        -- self.outs_by_pond
        refine ⟨D, _, hD8, trivial, fun od => ?_⟩
        have nDn8 : n ≠ D := nDn
        have hn9 : (upd H8 D (.frz od (.dK (bk (reB B ys))))) n = some (.ins C dx (putF "width_by_pair" (.ref D2) (putF "brim_by_pond" (.ref D) []))) := by rw [upd_ne nDn8]; exact hn8
        have nDW : D2 ≠ D := fun z => by subst z; rw [hD8] at hW8; cases hW8
        have hW9 : (upd H8 D (.frz od (.dK (bk (reB B ys))))) D2 = some (.dT (pt (reP Pp (qs.map (·.2))))) := by rw [upd_ne nDW]; exact hW8
        refine ⟨.ref n, rfl, n, C, dx, _, _, rfl, hn9, T.cl, T.nB, f2_b D D2, D, od, rfl, .inl ⟨_, upd_same, fun D3 nD3 => ?_⟩⟩
        have d3D : D3 ≠ D := fun e => by subst e; rw [upd_same] at nD3; cases nD3
        have nD38 : H8 D3 = none := by rw [upd_ne d3D] at nD3; exact nD3
        refine side_dc (g := outsOf (reP Pp (qs.map (·.2)))) wf2.nb wf2.lb upd_same nD3 (fun z => rfl) (fun z => rfl) (fun z Ha R mz sa h => ?_) (fun Ha Sa sa => ?_)
        · exact ⟨.ref n, rfl, n, C, dx, _, _, rfl, sa n _ hn9, T.cl, T.nW, f2_w D D2, .str z, rfl, D2, _, z, rfl, sa D2 _ hW9, wf2.np, wf2.lp, h⟩
        obtain ⟨l1, sb⟩ := same_lock hD8 sa
        refine ⟨l1, ?_⟩
        have Sb := Sa.unlock l1
        obtain ⟨Hb, hHb⟩ : ∃ Hb, Hb = upd Ha D (.dK (bk (reB B ys))) := ⟨_, rfl⟩
        rw [← hHb] at sb Sb
        rw [← hHb]
        refine ⟨.ref n, rfl, n, C, dx, _, rfl, sb n _ hn8, T.cl, T.nO, (by show 2 < 1000; decide), ?_⟩
        obtain ⟨Hc, hHc⟩ : ∃ Hc, Hc = upd Hb n (.ins C dx (putF "outs_by_pond" (.ref D3) (putF "width_by_pair" (.ref D2) (putF "brim_by_pond" (.ref D) [])))) := ⟨_, rfl⟩
        have nn3 : n ≠ D3 := ne_of_none hn8 nD38
        have hnc : Hc n = some (.ins C dx (putF "outs_by_pond" (.ref D3) (putF "width_by_pair" (.ref D2) (putF "brim_by_pond" (.ref D) [])))) := by rw [hHc, upd_same]
        have keepC : ∀ {b : Addr} {o : HO}, Hb b = some o → (∀ fs, o ≠ .ins C dx fs) → Hc b = some o := fun {b o} e no => by
          rw [hHc, upd_ne (fun z => by rw [z, sb n _ hn8] at e; exact no _ (Option.some.inj e).symm)]; exact e
        have hDc : Hc D = some (.dK (bk (reB B ys))) := keepC (sb D _ hD8) (fun v e => by cases e)
        have hWc : Hc D2 = some (.dT (pt (reP Pp (qs.map (·.2))))) := keepC (sb D2 _ hW8) (fun v e => by cases e)
        have Sc : SideAt Hc D3 (outsOf (reP Pp (qs.map (·.2)))) (nms (reB B ys)) := by
          obtain ⟨ls, e1, _⟩ := id Sb
          exact Sb.keep (fun x e => by rw [e1] at e; cases e; exact keepC e1 (fun v e => by cases e)) (fun b oq xs e => keepC e (fun v e => by cases e)) (fun b xs e => keepC e (fun v e => by cases e))
        have kc : ∀ c o, H c = some o → c ≠ n → Hc c = some o := fun c o ec nc => by rw [hHc, upd_ne nc]; exact sb c o (k8 c o ec nc)
        rw [← hHc]
        -- self.ins_by_pond
        refine ⟨D, _, hDc, trivial, fun od2 => ?_⟩
        have hnd : (upd Hc D (.frz od2 (.dK (bk (reB B ys))))) n = some (.ins C dx (putF "outs_by_pond" (.ref D3) (putF "width_by_pair" (.ref D2) (putF "brim_by_pond" (.ref D) [])))) := by rw [upd_ne nDn8]; exact hnc
        have hWd : (upd Hc D (.frz od2 (.dK (bk (reB B ys))))) D2 = some (.dT (pt (reP Pp (qs.map (·.2))))) := by rw [upd_ne nDW]; exact hWc
        refine ⟨.ref n, rfl, n, C, dx, _, _, rfl, hnd, T.cl, T.nB, f3_b D D2 D3, D, od2, rfl, .inl ⟨_, upd_same, fun D4 nD4 => ?_⟩⟩
        have d4D : D4 ≠ D := fun e => by subst e; rw [upd_same] at nD4; cases nD4
        have nD4c : Hc D4 = none := by rw [upd_ne d4D] at nD4; exact nD4
        refine side_dc (g := insOf (reP Pp (qs.map (·.2)))) wf2.nb wf2.lb upd_same nD4 (fun z => rfl) (fun z => rfl) (fun z Hd R mz sd h => ?_) (fun Hd Sd sd => ?_)
        · exact ⟨.ref n, rfl, n, C, dx, _, _, rfl, sd n _ hnd, T.cl, T.nW, f3_w D D2 D3, .str z, rfl, D2, _, z, rfl, sd D2 _ hWd, wf2.np, wf2.lp, h⟩
        obtain ⟨l2, se⟩ := same_lock hDc sd
        refine ⟨l2, ?_⟩
        have Se := Sd.unlock l2
        obtain ⟨He, hHe⟩ : ∃ He, He = upd Hd D (.dK (bk (reB B ys))) := ⟨_, rfl⟩
        rw [← hHe] at se Se
        rw [← hHe]
        refine ⟨.ref n, rfl, n, C, dx, _, rfl, se n _ hnc, T.cl, T.nI, (by show 3 < 1000; decide), ?_⟩
        have keepF : ∀ {b : Addr} {o : HO}, He b = some o → (∀ fs, o ≠ .ins C dx fs) → (upd He n (.ins C dx (nf D ⟨D2, D3, D4⟩))) b = some o := fun {b o} e no => by
          rw [upd_ne (fun z => by rw [z, se n _ hnc] at e; exact no _ (Option.some.inj e).symm)]; exact e
        have fin : ∀ {d : Addr} {g : Str → List (Str × Int)} {l : List Str}, SideAt He d g l → SideAt (upd He n (.ins C dx (nf D ⟨D2, D3, D4⟩))) d g l := fun {d g l} S => by
          obtain ⟨ls, e1, _⟩ := id S
          exact S.keep (fun x e => by rw [e1] at e; cases e; exact keepF e1 (fun v e => by cases e)) (fun b oq xs e => keepF e (fun v e => by cases e)) (fun b xs e => keepF e (fun v e => by cases e))
        have newc : ∀ {d : Addr}, Hc d = none → H d = none := fun {d} e => by
          cases eh : H d with
          | none => rfl
          | some o =>
            by_cases en : d = n
            · rw [en, hnc] at e; cases e
            · rw [kc d o eh en] at e; cases e
        have new8 : ∀ {d : Addr}, H8 d = none → H d = none := fun {d} e => by
          cases eh : H d with
          | none => rfl
          | some o =>
            by_cases en : d = n
            · rw [en, hn8] at e; cases e
            · rw [k8 d o eh en] at e; cases e
        refine q (upd He n (.ins C dx (nf D ⟨D2, D3, D4⟩))) (reB B ys) (reP Pp (qs.map (·.2))) ⟨dx, D, ⟨D2, D3, D4⟩, upd_same, keepF (se D _ hDc) (fun v e => by cases e), keepF (se D2 _ hWc) (fun v e => by cases e), fin (Sc.same se), fin Se⟩
          (reB_perm wf.nb pm) (reP_perm wf.np pm2) (by rw [eB]; exact srt) (by rw [eP]; exact srt2) ⟨dx, D, ⟨D2, D3, D4⟩, upd_same, (s14.trans sE).free nD, new8 nD38, newc nD4c⟩ (fun c o ec nc => ?_)
        rw [upd_ne nc]; exact se c o (kc c o ec nc)
end
end Nl
end
section
set_option maxHeartbeats 1000000
namespace Nl
open PySem PySem.Spec PyProof.Rows L2 Nt
theorem no_attr {d1 : Addr} {d2 : Dd} {m : Str} (h1 : ¬ m = "width_by_pair" := by decide +kernel) (h2 : ¬ m = "brim_by_pond" := by decide +kernel) (h3 : ¬ m = "outs_by_pond" := by decide +kernel) (h4 : ¬ m = "ins_by_pond" := by decide +kernel) : (nf d1 d2).lookup m = none := nf_no d1 d2 h1 h2 h3 h4
theorem SideAt.val {H : Hp} {d : Addr} {g : Str → List (Str × Int)} {l : List Str} {z : Str} (h : SideAt H d g l) (nd : l.Nodup) (mz : z ∈ l) : ∃ kvs p as od, H d = some (.dK kvs) ∧ valV kvs (Sum.inr z) = some (.ref p) ∧ H p = some (.frz od (.lst (as.map V.ref))) ∧ PairsAt H as (g z) := by
  obtain ⟨ls, a, b, c⟩ := h
  rw [← b] at mz nd
  obtain ⟨p, hp, e⟩ := List.mem_map.mp mz
  have e' : p.1 = z := e
  subst e'
  obtain ⟨as, od, e1, e2⟩ := c p hp
  refine ⟨_, p.2, as, od, a, ?_, e1, e2⟩
  clear a b c e1 e2 e mz
  unfold valV
  induction ls with
  | nil => exact (List.not_mem_nil hp).elim
  | cons x r ih =>
    rw [List.map_cons, List.nodup_cons] at nd
    rw [List.map_cons, List.find?_cons]
    rcases List.mem_cons.mp hp with rfl | hp
    · rw [show decide (((Sum.inr p.1 : Key), V.ref p.2).1 = Sum.inr p.1) = true from decide_eq_true rfl]; rfl
    · have : x.1 ≠ p.1 := fun e => nd.1 (by rw [e]; exact List.mem_map.mpr ⟨p, hp, rfl⟩)
      rw [show decide (((Sum.inr x.1 : Key), V.ref x.2).1 = Sum.inr p.1) = false from decide_eq_false (fun e => this (Sum.inr.inj e))]
      exact ih nd.2 hp
section
variable {P : Program} {w : World} {K : PySem.W.Frag} {mg : Str → Option Value} {base : Heap}
theorem scHas : FnScope ["self", "thing"] ["self", "thing"] (defScope mNet_has_pond) := ⟨rfl, rfl, rfl, by decide +kernel, rfl, by decide +kernel, by decide +kernel⟩
structure NetRd (C : Addr) (H : Hp) (n : Addr) (B : Br) : Prop where
  at_ : ∃ dx d1 d2, H n = some (.ins C dx (nf d1 d2)) ∧ Rd H d1 (.dK (bk B))
theorem NetAt.rd {C : Addr} {H : Hp} {n : Addr} {B : Br} {Pp : Pi} (h : NetAt C H n B Pp) : NetRd C H n B := by
  obtain ⟨dx, d1, d2, a, b, _⟩ := h
  exact ⟨dx, d1, d2, a, .inl b⟩
def spHas (C : Addr) : Sp := fun vs H Q _ => ∃ (n : Addr) (B : Br) (z : Str), vs = [.ref n, .str z] ∧ NetRd C H n B ∧ Sm 25 z ∧ ∀ H', Same H H' → Q (.bl (nameB z && decide (z ∈ nms B))) H'
theorem ok_has {f C f1 : Addr} {fd fd1 : FuncData} (F : Fun K "has_pond" "Net.has_pond" mNet_has_pond f fd) (T : TxN K mg C)
    (F1 : Fun K "is_pond_of" "is_pond_of" sPondOf f1 fd1) (G1 : FnOk P w K mg base CX0 2 f1 fd1 ["brims", "thing"] spPondOf) (b1 : Binds K fd1 ["brims", "thing"] []) (g1 : mg "is_pond_of" = some (.ref f1)) :
    FnOk P w K mg base CX0 3 f fd ["self", "thing"] (spHas C) := by
  refine F.ok scHas (fun vs H Q E h => ?_) (fun cdv A outer s H vs Q E hr h => ?_)
  · obtain ⟨n, B, z, rfl, _⟩ := h
    rfl
  · obtain ⟨n, B, z, rfl, ⟨dx, d1, d2, hn, h1⟩, hz, q⟩ := h
    refine ⟨_, pss_one (ps_ret (pe_call G1 hr (by rfl) g1 F1.kp b1 .nil pass0 (pa_cons (pe_fld (pv 0) rfl) (pa_cons (pv 1) pa_nil)))), ?_⟩
    exact ⟨.ref n, rfl, n, C, dx, _, _, rfl, hn, T.cl, T.nB, nf_b d1 d2, .str z, rfl, d1, B, z, rfl, h1, hz, q⟩
theorem scChk : FnScope ["self", "thing"] ["self", "thing"] (defScope mNet_check_pond) := ⟨rfl, rfl, rfl, by decide +kernel, rfl, by decide +kernel, by decide +kernel⟩
def spChk (C : Addr) : Sp := fun vs H Q _ => ∃ (n : Addr) (B : Br) (Pp : Pi) (z : Str), vs = [.ref n, .str z] ∧ NetAt C H n B Pp ∧ Nm z ∧ z ∈ nms B ∧ ∀ H', Same H H' → Q .non H'
theorem ok_chk {f C f1 : Addr} {fd fd1 : FuncData} (F : Fun K "check_pond" "Net.check_pond" mNet_check_pond f fd) (T : TxN K mg C)
    (m1 : Meth K C "has_pond" f1) (G1 : FnOk P w K mg base CX0 3 f1 fd1 ["self", "thing"] (spHas C)) (b1 : Binds K fd1 ["self", "thing"] []) : FnOk P w K mg base CX0 4 f fd ["self", "thing"] (spChk C) := by
  refine F.ok scChk (fun vs H Q E h => ?_) (fun cdv A outer s H vs Q E hr h => ?_)
  · obtain ⟨n, B, Pp, z, rfl, _⟩ := h
    rfl
  · obtain ⟨n, B, Pp, z, rfl, N, nz, mz, q⟩ := h
    obtain ⟨dx, d1, d2, hn, h1, h2⟩ := N.at_
    refine ⟨_, pss_one (ps_if (pt_not (pt_val (pe_meth (pv 0) T.cl m1 G1 hr b1 .nil pass0 (pa_cons (pv 1) pa_nil)))) (pss_one ps_never) pss_nil), ?_⟩
    refine ⟨.ref n, rfl, n, dx, _, rfl, hn, no_attr, .str z, rfl, n, B, z, rfl, N.rd, nz.sm.mono (by decide), fun H1 s1 => ?_⟩
    rw [show nameB z = true from nz, decide_eq_true mz]
    exact ⟨true, rfl, iteF (q H1 s1)⟩
theorem scPonds : FnScope ["self"] ["self"] (defScope mNet_ponds) := ⟨rfl, rfl, rfl, by decide +kernel, rfl, by decide +kernel, by decide +kernel⟩
def spPonds (C : Addr) : Sp := fun vs H Q _ => ∃ (n : Addr) (B : Br) (Pp : Pi), vs = [.ref n] ∧ NetAt C H n B Pp ∧ ∀ p, H p = none → Q (.ref p) (upd H p (.lst ((nms B).map V.str)))
theorem ok_ponds {f C : Addr} {fd : FuncData} {k : Nat} (F : Fun K "ponds" "Net.ponds" mNet_ponds f fd) (T : TxN K mg C) (ml : mg "list" = none) : FnOk P w K mg base CX0 (k + 1) f fd ["self"] (spPonds C) := by
  refine F.ok scPonds (fun vs H Q E h => ?_) (fun cdv A outer s H vs Q E hr h => ?_)
  · obtain ⟨n, B, Pp, rfl, _⟩ := h
    rfl
  · obtain ⟨n, B, Pp, rfl, ⟨dx, d1, d2, hn, h1, h2⟩, q⟩ := h
    refine ⟨_, pss_one (ps_ret (pe_callTy (call_listD rfl) (by rfl) ml (by decide +kernel) (pa_cons (pe_fld (pv 0) rfl) pa_nil))), ?_⟩
    refine ⟨.ref n, rfl, n, C, dx, _, _, rfl, hn, T.cl, T.nB, nf_b d1 d2, d1, _, rfl, .inl h1, fun p np => ?_⟩
    have := q p np
    unfold nms at this
    unfold bk
    rw [List.map_map] at this ⊢
    exact this
theorem scBrim : FnScope ["self", "name"] ["self", "name"] (defScope mNet_brim) := ⟨rfl, rfl, rfl, by decide +kernel, rfl, by decide +kernel, by decide +kernel⟩
def spBrim (C : Addr) : Sp := fun vs H Q _ => ∃ (n : Addr) (B : Br) (Pp : Pi) (z : Str) (c : Int), vs = [.ref n, .str z] ∧ NetAt C H n B Pp ∧ Nm z ∧ getB B z = some c ∧ ∀ H', Same H H' → Q (.int c) H'
theorem ok_brim {f C f1 : Addr} {fd fd1 : FuncData} (F : Fun K "brim" "Net.brim" mNet_brim f fd) (T : TxN K mg C) (m1 : Meth K C "check_pond" f1) (G1 : FnOk P w K mg base CX0 4 f1 fd1 ["self", "thing"] (spChk C)) (b1 : Binds K fd1 ["self", "thing"] []) :
    FnOk P w K mg base CX0 5 f fd ["self", "name"] (spBrim C) := by
  refine F.ok scBrim (fun vs H Q E h => ?_) (fun cdv A outer s H vs Q E hr h => ?_)
  · obtain ⟨n, B, Pp, z, c, rfl, _⟩ := h
    rfl
  · obtain ⟨n, B, Pp, z, c, rfl, N, nz, gz, q⟩ := h
    obtain ⟨dx, d1, d2, hn, h1, h2⟩ := N.at_
    have mz : z ∈ nms B := List.mem_map.mpr ⟨_, getB_mem gz, rfl⟩
    refine ⟨_, pss_cons (ps_expr (pe_meth (pv 0) T.cl m1 G1 hr b1 .nil pass0 (pa_cons (pv 1) pa_nil))) (pss_one (ps_ret (pe_dget (hu_of hr) (pe_fld (pv 0) rfl) (pv 1) (fun _ _ => rfl)))), ?_⟩
    refine ⟨.ref n, rfl, n, dx, _, rfl, hn, no_attr, .str z, rfl, n, B, Pp, z, rfl, N, nz, mz, fun H1 s1 => ?_⟩
    exact ⟨.ref n, rfl, n, C, dx, _, _, rfl, s1 n _ hn, T.cl, T.nB, nf_b d1 d2, .str z, rfl, d1, .int c, rfl, .inl ⟨_, Sum.inr z, .inl (s1 d1 _ h1), rfl, by rw [valV_bk, gz]; rfl⟩, q H1 s1⟩
theorem scIns : FnScope ["self", "name"] ["self", "name"] (defScope mNet_ins) := ⟨rfl, rfl, rfl, by decide +kernel, rfl, by decide +kernel, by decide +kernel⟩
def spIns (C : Addr) : Sp := fun vs H Q _ => ∃ (n : Addr) (B : Br) (Pp : Pi) (z : Str), vs = [.ref n, .str z] ∧ NetAt C H n B Pp ∧ Good B Pp ∧ Nm z ∧ z ∈ nms B ∧
  ∀ H' p as, Same H H' → H p = none → H' p = some (.lst (as.map V.ref)) → PairsAt H' as (insOf Pp z) → Q (.ref p) H'
theorem ok_ins {f C f1 : Addr} {fd fd1 : FuncData} (F : Fun K "ins" "Net.ins" mNet_ins f fd) (T : TxN K mg C) (m1 : Meth K C "check_pond" f1) (G1 : FnOk P w K mg base CX0 4 f1 fd1 ["self", "thing"] (spChk C)) (b1 : Binds K fd1 ["self", "thing"] []) (ml : mg "list" = none) :
    FnOk P w K mg base CX0 5 f fd ["self", "name"] (spIns C) := by
  refine F.ok scIns (fun vs H Q E h => ?_) (fun cdv A outer s H vs Q E hr h => ?_)
  · obtain ⟨n, B, Pp, z, rfl, _⟩ := h
    rfl
  · obtain ⟨n, B, Pp, z, rfl, N, good, nz, mz, q⟩ := h
    obtain ⟨dx, d1, d2, hn, h1, h2, h3, h4⟩ := N.at_
    refine ⟨_, pss_cons (ps_expr (pe_meth (pv 0) T.cl m1 G1 hr b1 .nil pass0 (pa_cons (pv 1) pa_nil))) (pss_one (ps_ret (pe_callTy call_list_of (by rfl) ml (by decide +kernel) (pa_cons (pe_dget (hu_of hr) (pe_fld (pv 0) rfl) (pv 1) (fun _ _ => rfl)) pa_nil)))), ?_⟩
    refine ⟨.ref n, rfl, n, dx, _, rfl, hn, no_attr, .str z, rfl, n, B, Pp, z, rfl, N, nz, mz, fun H1 s1 => ?_⟩
    obtain ⟨kvs, p, as, od, e1, e2, e3, e4⟩ := (h4.same s1).val good.wf.nb mz
    refine ⟨.ref n, rfl, n, C, dx, _, _, rfl, s1 n _ hn, T.cl, T.nI, nf_i d1 d2, .str z, rfl, d2.i, .ref p, rfl, .inl ⟨_, Sum.inr z, .inl e1, rfl, e2.symm⟩, p, _, rfl, .inl (.inl (.inr ⟨od, e3⟩)), fun l nl => ?_⟩
    have sn := same_new (o := .lst (as.map V.ref)) nl
    exact q _ l as (s1.trans sn) (s1.free nl) upd_same (e4.same sn)
theorem scBrims : FnScope ["self", "name"] ["self"] (defScope mNet_brims) := ⟨rfl, rfl, rfl, by decide +kernel, rfl, by decide +kernel, by decide +kernel⟩
def spBrims (C : Addr) : Sp := fun vs H Q _ => ∃ (n : Addr) (B : Br) (Pp : Pi), vs = [.ref n] ∧ NetAt C H n B Pp ∧ Good B Pp ∧ ∀ H' p, Same H H' → H p = none → H' p = some (.dK (bk B)) → Q (.ref p) H'
theorem ok_brims {f C : Addr} {fd : FuncData} {k : Nat} (F : Fun K "brims" "Net.brims" mNet_brims f fd) (T : TxN K mg C) : FnOk P w K mg base CX0 (k + 1) f fd ["self"] (spBrims C) := by
  refine F.ok scBrims (fun vs H Q E h => ?_) (fun cdv A outer s H vs Q E hr h => ?_)
  · obtain ⟨n, B, Pp, rfl, _⟩ := h
    rfl
  · obtain ⟨n, B, Pp, rfl, N, good, q⟩ := h
    obtain ⟨dx, d1, d2, hn, h1, h2⟩ := N.at_
    have wf := good.wf
    refine ⟨_, pss_one (ps_ret (pe_lock (Rl.pe_dcP (T := .dK []) (own := [("name", 1)]) (g := gName 1) (tt := tYes) (tk := tVar 1) (tv := tDGet (tFld K (tVar 0) "brim_by_pond") (tVar 1)) (.inr rfl) hr rfl scBrims.nd (pi_keys (pe_fld (pv 0) rfl))
      (blkOk_by (N := ["self", "name"]) (sc := defScope mNet_brims) (by decide +kernel)) (fun _ _ _ _ _ => pg_name (i := 1) scBrims.nd rfl (Or.inl rfl)) (fun _ _ _ _ _ => pts_nil)
      (fun _ _ _ _ _ => pv 1) (fun _ _ _ _ _ => pe_dget (hu_of hr) (pe_fld (pv 0) rfl) (pv 1) (fun _ _ => rfl))))), ?_⟩
    have nd1 : n ≠ d1 := fun e => by subst e; rw [hn] at h1; cases h1
    refine ⟨d1, _, h1, trivial, fun od => ?_⟩
    refine ⟨.ref n, rfl, n, C, dx, _, _, rfl, (by rw [upd_ne nd1]; exact hn), T.cl, T.nB, nf_b d1 d2, d1, od, rfl, .inl ⟨_, upd_same, fun D nD => ?_⟩⟩
    have hDd : D ≠ d1 := fun e => by subst e; rw [upd_same] at nD; cases nD
    have nDH : H D = none := by rw [upd_ne hDd] at nD; exact nD
    refine Rl.gc_it (n := (bk B).length) (b0 := fun _ => .dK []) walk_keys (fun i H2 => H2 D = some (.dK (bk (B.take i))) ∧ Same (upd H d1 (.frz od (.dK (bk B)))) H2) ⟨upd_same, same_new nD⟩ (fun i H2 _ h => h.2 d1 _ upd_same) ?_ ?_
    · rintro i x H2 H2' hi ⟨hD, sm⟩ ⟨rfl, kk, v, hkv, rfl⟩
      obtain ⟨p, hp, rfl, rfl⟩ := bk_at hkv
      have hm := List.mem_of_getElem? hp
      refine ⟨rfl, .str p.1, rfl, .ref n, rfl, n, C, dx, _, _, rfl, sm n _ (by rw [upd_ne nd1]; exact hn), T.cl, T.nB, nf_b d1 d2, .str p.1, rfl, d1, .int p.2, rfl, .inl ⟨_, Sum.inr p.1, .inr ⟨od, sm d1 _ upd_same⟩, rfl, ?_⟩, _, DPut.k (k := Sum.inr p.1) hD ?_, ?_, ?_⟩
      · rw [valV_bk, getB_of_mem wf.nb hm]; rfl
      · rw [bk_len, List.length_take]; have := wf.lb; exact small1000 (by omega)
      · have fr : p.1 ∉ nms (B.take i) := by
          have h3 : (nms B)[i]? = some p.1 := by unfold nms; rw [List.getElem?_map, hp]; rfl
          have h4 := take_nd wf.nb h3
          unfold nms at h4 ⊢
          rw [← List.map_take] at h4; exact h4
        rw [upd_same, putK_bk fr, List.take_add_one, hp]; rfl
      · exact fun c o ec => by
          have nb : c ≠ D := ne_of_none ec nD
          rw [upd_ne nb]; exact sm c o ec
    · rintro H2 ⟨hD, sm⟩
      obtain ⟨l1, l2⟩ := same_lock h1 sm
      rw [bk_len, List.take_length] at hD
      exact ⟨l1, q _ D l2 nDH (by rw [upd_ne hDd]; exact hD)⟩
theorem scPipes : FnScope ["self", "pair"] ["self"] (defScope mNet_pipes) := ⟨rfl, rfl, rfl, by decide +kernel, rfl, by decide +kernel, by decide +kernel⟩
def spPipes (C : Addr) : Sp := fun vs H Q _ => ∃ (n : Addr) (B : Br) (Pp : Pi), vs = [.ref n] ∧ NetAt C H n B Pp ∧ Good B Pp ∧ ∀ H' p, Same H H' → H p = none → H' p = some (.dT (pt Pp)) → Q (.ref p) H'
theorem ok_pipes {f C : Addr} {fd : FuncData} {k : Nat} (F : Fun K "pipes" "Net.pipes" mNet_pipes f fd) (T : TxN K mg C) : FnOk P w K mg base CX0 (k + 1) f fd ["self"] (spPipes C) := by
  refine F.ok scPipes (fun vs H Q E h => ?_) (fun cdv A outer s H vs Q E hr h => ?_)
  · obtain ⟨n, B, Pp, rfl, _⟩ := h
    rfl
  · obtain ⟨n, B, Pp, rfl, N, good, q⟩ := h
    obtain ⟨dx, d1, ⟨d2, dO, dI⟩, hn, h1, h2, _, _⟩ := N.at_
    have wf := good.wf
    refine ⟨_, pss_one (ps_ret (pe_lock (Rl.pe_dcP (T := .dT []) (own := [("pair", 1)]) (g := gName 1) (tt := tYes) (tk := tVar 1) (tv := tDGet (tFld K (tVar 0) "width_by_pair") (tVar 1)) (.inl rfl) hr rfl scPipes.nd (pi_keys (pe_fld (pv 0) rfl))
      (blkOk_by (N := ["self", "pair"]) (sc := defScope mNet_pipes) (by decide +kernel)) (fun _ _ _ _ _ => pg_name (i := 1) scPipes.nd rfl (Or.inl rfl)) (fun _ _ _ _ _ => pts_nil)
      (fun _ _ _ _ _ => pv 1) (fun _ _ _ _ _ => pe_dget (hu_of hr) (pe_fld (pv 0) rfl) (pv 1) (fun _ _ => rfl))))), ?_⟩
    have nd2 : n ≠ d2 := fun e => by subst e; rw [hn] at h2; cases h2
    refine ⟨d2, _, h2, trivial, fun od => ?_⟩
    refine ⟨.ref n, rfl, n, C, dx, _, _, rfl, (by rw [upd_ne nd2]; exact hn), T.cl, T.nW, nf_w d1 ⟨d2, dO, dI⟩, d2, od, rfl, .inr ⟨_, upd_same, fun D nD => ?_⟩⟩
    have hDd : D ≠ d2 := fun e => by subst e; rw [upd_same] at nD; cases nD
    have nDH : H D = none := by rw [upd_ne hDd] at nD; exact nD
    refine Rl.gc_it (n := (pt Pp).length) (b0 := fun _ => .dT []) walk_keysT (fun i H2 => H2 D = some (.dT (pt (Pp.take i))) ∧ Same (upd H d2 (.frz od (.dT (pt Pp)))) H2) ⟨upd_same, same_new nD⟩ (fun i H2 _ h => h.2 d2 _ upd_same) ?_ ?_
    · rintro i x H2 H2' hi ⟨hD, sm⟩ ⟨rfl, kk, v, qq, hkv, rfl, hq⟩
      obtain ⟨p, hp, rfl, rfl⟩ := pt_at hkv
      have hm := List.mem_of_getElem? hp
      refine ⟨rfl, .ref qq, rfl, .ref n, rfl, n, C, dx, _, _, rfl, sm n _ (by rw [upd_ne nd2]; exact hn), T.cl, T.nW, nf_w d1 ⟨d2, dO, dI⟩, .ref qq, rfl, d2, .int p.2, rfl, .inr ⟨_, Rl.pk p.1, qq, .inr ⟨od, sm d2 _ upd_same⟩, rfl, hq, ?_⟩, _, DPut.t (k := Rl.pk p.1) hD hq ?_, ?_, ?_⟩
      · rw [valV_pt, getP_of_mem wf.np (show (p.1, p.2) ∈ Pp from hm)]; rfl
      · rw [pt_len, List.length_take]; have := wf.lp; exact small1000 (by omega)
      · have fr : p.1 ∉ (Pp.take i).map Prod.fst := by
          have h3 : (Pp.map Prod.fst)[i]? = some p.1 := by rw [List.getElem?_map, hp]; rfl
          have h4 := take_nd wf.np h3
          rw [← List.map_take] at h4; exact h4
        rw [upd_same, putK_pt fr, List.take_add_one, hp]; rfl
      · exact fun c o ec => by
          have nb : c ≠ D := ne_of_none ec nD
          rw [upd_ne nb]; exact sm c o ec
    · rintro H2 ⟨hD, sm⟩
      obtain ⟨l1, l2⟩ := same_lock h2 sm
      rw [pt_len, List.take_length] at hD
      exact ⟨l1, q _ D l2 nDH (by rw [upd_ne hDd]; exact hD)⟩
end
end Nl
end
section
set_option maxHeartbeats 1000000
namespace Nl
open PySem PySem.Spec PyProof.Rows L2 Nt
/-! ### stands -/
theorem s12 : ¬ (("own_net" : Str) = "poured_by_pond") := by decide +kernel
theorem s13 : ¬ (("own_net" : Str) = "count_by_pond") := by decide +kernel
theorem s23 : ¬ (("poured_by_pond" : Str) = "count_by_pond") := by decide +kernel
def sf (n d1 d2 : Addr) : List (Str × V) := putF "count_by_pond" (.ref d2) (putF "poured_by_pond" (.ref d1) (putF "own_net" (.ref n) []))
theorem sf_n (n d1 d2 : Addr) : (sf n d1 d2).lookup ("own_net" : Str) = some (.ref n) := by
  unfold sf
  rw [lookup_putF, if_neg s13, lookup_putF, if_neg s12, lookup_putF, if_pos rfl]
theorem sf_p (n d1 d2 : Addr) : (sf n d1 d2).lookup ("poured_by_pond" : Str) = some (.ref d1) := by
  unfold sf
  rw [lookup_putF, if_neg s23, lookup_putF, if_pos rfl]
theorem sf_c (n d1 d2 : Addr) : (sf n d1 d2).lookup ("count_by_pond" : Str) = some (.ref d2) := by
  unfold sf
  rw [lookup_putF, if_pos rfl]
theorem sf_no {n d1 d2 : Addr} {m : Str} (h1 : ¬ m = "count_by_pond" := by decide +kernel) (h2 : ¬ m = "poured_by_pond" := by decide +kernel) (h3 : ¬ m = "own_net" := by decide +kernel) : (sf n d1 d2).lookup m = none := by
  unfold sf
  rw [lookup_putF, if_neg h1, lookup_putF, if_neg h2, lookup_putF, if_neg h3]; rfl
structure StandAt (CS C : Addr) (H : Hp) (s : Addr) (B : Br) (Pp : Pi) (Qp Qc : Br) : Prop where
  at_ : ∃ dx n d1 d2, H s = some (.ins CS dx (sf n d1 d2)) ∧ NetAt C H n B Pp ∧ H d1 = some (.dK (bk Qp)) ∧ H d2 = some (.dK (bk Qc))
theorem StandAt.same {CS C : Addr} {H H' : Hp} {s : Addr} {B : Br} {Pp : Pi} {Qp Qc : Br} (h : StandAt CS C H s B Pp Qp Qc) (sm : Same H H') : StandAt CS C H' s B Pp Qp Qc := by
  obtain ⟨dx, n, d1, d2, a, b, c, d⟩ := h
  exact ⟨dx, n, d1, d2, sm _ _ a, b.same sm, sm _ _ c, sm _ _ d⟩
structure TxS (K : PySem.W.Frag) (mg : Str → Option Value) (CS : Addr) : Prop where
  cl : Cls K CS
  nN : NoAttr K CS "own_net"
  nP : NoAttr K CS "poured_by_pond"
  nC : NoAttr K CS "count_by_pond"
  mgC : mg "Stand" = some (.ref CS)
/-- a table that may be handed in -/
structure Tab (H : Hp) (v : V) (B Qd : Br) : Prop where
  at_ : (v = .non ∧ Qd = []) ∨ ∃ a, v = .ref a ∧ H a = some (.dK (bk Qd))
  nd : (nms Qd).Nodup
  ln : Qd.length ≤ 200
  ok : ∀ p ∈ Qd, p.1 ∈ nms B ∧ 0 ≤ p.2
theorem Tab.same {H H' : Hp} {v : V} {B Qd : Br} (h : Tab H v B Qd) (s : Same H H') : Tab H' v B Qd :=
  ⟨h.at_.imp id fun ⟨a, e, q⟩ => ⟨a, e, s _ _ q⟩, h.nd, h.ln, h.ok⟩
def val0 (Qd : Br) (x : Str) : Int := (getB Qd x).getD 0
def fill (B Qd : Br) : Br := (nms B).map fun x => (x, val0 Qd x)
theorem nms_map (l : List Str) (f : Str → Int) : nms (l.map fun x => (x, f x)) = l := by
  unfold nms
  rw [List.map_map]
  exact List.map_id' _
theorem fill_nms (B Qd : Br) : nms (fill B Qd) = nms B := nms_map _ _
theorem getB_map {l : List Str} {f : Str → Int} {x : Str} (nd : l.Nodup) (h : x ∈ l) : getB (l.map fun y => (y, f y)) x = some (f x) :=
  getB_of_mem (by rw [nms_map]; exact nd) (List.mem_map.mpr ⟨x, h, rfl⟩)
theorem cut_nil : cutV ([] : List V) none (some 1) = [] := by
  unfold cutV; simp
section
variable {P : Program} {w : World} {K : PySem.W.Frag} {mg : Str → Option Value} {base : Heap}
theorem scWrong : FnScope ["net", "table", "key"] ["net", "table"] (defScope sWrong) := ⟨rfl, rfl, rfl, by decide +kernel, rfl, by decide +kernel, by decide +kernel⟩
def spWrong (C : Addr) : Sp := fun vs H Q _ => ∃ (n : Addr) (t : V) (B : Br) (Pp : Pi) (Qd : Br), vs = [.ref n, t] ∧ NetAt C H n B Pp ∧ Good B Pp ∧ Tab H t B Qd ∧ ∀ H' p, Same H H' → H p = none → H' p = some (.lst []) → Q (.ref p) H'
theorem ok_wrong {f C f1 f2 : Addr} {fd fd1 fd2 : FuncData} (F : Fun K "wrong_keys" "wrong_keys" sWrong f fd) (T : TxN K mg C)
    (m1 : Meth K C "has_pond" f1) (G1 : FnOk P w K mg base CX0 3 f1 fd1 ["self", "thing"] (spHas C)) (b1 : Binds K fd1 ["self", "thing"] [])
    (F2 : Fun K "is_whole" "is_whole" sWhole f2 fd2) (G2 : FnOk P w K mg base CX0 1 f2 fd2 ["thing", "least"] spWhole) (b2 : Binds K fd2 ["thing", "least"] []) (g2 : mg "is_whole" = some (.ref f2))
    (mi : mg "isinstance" = none) (md : mg "dict" = none) : FnOk P w K mg base CX0 4 f fd ["net", "table"] (spWrong C) := by
  refine F.ok scWrong (fun vs H Q E h => ?_) (fun cdv A outer s H vs Q E hr h => ?_)
  · obtain ⟨n, t, B, Pp, Qd, rfl, _⟩ := h
    rfl
  · obtain ⟨n, t, B, Pp, Qd, rfl, N, good, tab, q⟩ := h
    obtain ⟨dx, d1, d2, hn, h1, h2⟩ := N.at_
    refine ⟨_, pss_cons (ps_if (pt_cmp (pc_isN (pv 1))) (pss_one (ps_ret (pe_lst pa_nil))) pss_nil)
      (pss_cons (ps_if (pt_not (pt_val (pe_callB call_isi (by rfl) mi (by decide +kernel) (pa_cons (pv 1) (pa_cons (pe_bltn (v := .ty "dict") (by rfl) md (by decide +kernel) rfl) pa_nil))))) (pss_one (ps_never)) pss_nil)
      (pss_one (ps_ret (pe_slice sl_list (pe_lock (pe_lc (own := [("key", 2)]) (g := gName 2) rfl scWrong.nd (pi_keys (pv 1))
        (blkOk_by (N := ["net", "table", "key"]) (sc := defScope sWrong) (by decide +kernel)) (fun _ _ _ _ _ => pg_name (i := 2) scWrong.nd rfl (Or.inl rfl))
        (fun _ _ _ _ _ => pts_one (PW.pt (pw_or (pt_not (pt_val (pe_meth (pv 0) T.cl m1 G1 hr b1 .nil pass0 (pa_cons (pv 2) pa_nil)))) (pw_or1 (pt_not (pt_val (pe_call G2 (hr.mono (by decide)) (by rfl) g2 F2.kp b2 .nil pass0 (pa_cons (pe_dget (hu_of hr) (pv 1) (pv 2) (fun _ _ => rfl)) (pa_cons pe_int pa_nil)))))))))
        (fun _ _ _ _ _ => pv 2))) po_none (po_some pe_int))))), ?_⟩
    rcases tab.at_ with ⟨rfl, rfl⟩ | ⟨a, rfl, hA⟩
    · refine ⟨.non, rfl, true, rfl, iteT ⟨Nat.zero_le _, fun p np => ?_⟩⟩
      exact q _ p (same_new np) np upd_same
    · refine ⟨.ref a, rfl, false, rfl, iteF ?_⟩
      refine ⟨.ref a, rfl, .ref a, .ty "dict", .type "dict", .type "dict", true, rfl, .ty _, .base (.dK hA), kit_ty (by decide +kernel), true, rfl, iteF ?_⟩
      refine ⟨a, _, hA, trivial, fun od => ?_⟩
      refine ⟨.ref a, rfl, a, od, rfl, .inl ⟨_, upd_same, fun D nD => ?_⟩⟩
      have hDa : D ≠ a := fun e => by subst e; rw [upd_same] at nD; cases nD
      have nDH : H D = none := by rw [upd_ne hDa] at nD; exact nD
      have sN : ∀ {H1 : Hp}, Same (upd H a (.frz od (.dK (bk Qd)))) H1 → NetRd C H1 n B := fun {H1} sm => by
        have na : n ≠ a := fun e => by subst e; rw [hn] at hA; cases hA
        refine ⟨dx, d1, d2, sm n _ (by rw [upd_ne na]; exact hn), ?_⟩
        by_cases had : d1 = a
        · rw [had] at h1
          rw [hA] at h1
          have e1 : HO.dK (bk Qd) = HO.dK (bk B) := Option.some.inj h1
          rw [had, ← e1]
          exact .inr ⟨od, sm a _ upd_same⟩
        · exact .inl (sm d1 _ (by rw [upd_ne had]; exact h1))
      refine lc_it (n := (bk Qd).length) walk_keys (fun i H1 => H1 D = some (.lst []) ∧ Same (upd H a (.frz od (.dK (bk Qd)))) H1) ⟨upd_same, same_new nD⟩ (fun i H1 _ h => h.2 a _ upd_same) ?_ ?_
      · rintro i x H1 H1' hi ⟨hD, sm⟩ ⟨rfl, kk, v, hkv, rfl⟩
        obtain ⟨p, hp, rfl, rfl⟩ := bk_at hkv
        have hm := List.mem_of_getElem? hp
        obtain ⟨o1, o2⟩ := tab.ok p hm
        obtain ⟨pb, hpb, eb⟩ := List.mem_map.mp o1
        have nz : Nm p.1 := by rw [← (show pb.1 = p.1 from eb)]; exact (good.wf.rb pb hpb).1
        have N1 := sN sm
        obtain ⟨dx', d1', d2', hn', _⟩ := N1.at_
        refine ⟨rfl, .ref n, rfl, n, dx', _, rfl, hn', no_attr, .str p.1, rfl, n, B, p.1, rfl, N1, nz.sm.mono (by decide), fun H2 s2 => ?_⟩
        rw [show nameB p.1 = true from nz, decide_eq_true o1]
        refine ⟨true, rfl, iteF ?_⟩
        refine ⟨.ref a, rfl, .str p.1, rfl, a, .int p.2, rfl, .inl ⟨_, Sum.inr p.1, .inr ⟨od, s2 a _ (sm a _ upd_same)⟩, rfl, by rw [valV_bk, getB_of_mem tab.nd hm]; rfl⟩, p.2, 0, rfl, ?_⟩
        rw [decide_eq_true (show p.2 ≥ 0 from o2)]
        exact ⟨true, rfl, iteF ⟨s2 D _ hD, sm.trans s2⟩⟩
      · rintro H1 ⟨hD, sm⟩
        obtain ⟨l1, l2⟩ := same_lock hA sm
        refine ⟨l1, 1, rfl, D, [], rfl, SqL.of (by rw [upd_ne hDa]; exact hD), fun p np => ?_⟩
        rw [cut_nil]
        exact q _ p (l2.trans (same_new np)) (l2.free np) upd_same
end
end Nl
end
section
set_option maxHeartbeats 1000000
namespace Nl
open PySem PySem.Spec PyProof.Rows L2 Nt
theorem getD_val (Qd : Br) (z : Str) : (((getB Qd z).map V.int).getD (.int 0)) = .int (val0 Qd z) := by
  unfold val0
  cases getB Qd z <;> rfl
def mapN (l : List Str) (f : Str → Int) : Br := l.map fun x => (x, f x)
theorem mapN_take (l : List Str) (f : Str → Int) (i : Nat) {z : Str} (h : l[i]? = some z) : mapN (l.take (i + 1)) f = mapN (l.take i) f ++ [(z, f z)] := by
  unfold mapN
  rw [List.take_add_one, h, List.map_append]; rfl
/-- a dict comprehension over the ponds' list -/
theorem ponds_dc {K : PySem.W.Frag} {l : List Str} {f : Str → Int} {e D : Addr} {H1 : Hp} {σ : L2.St} {tv : TE} {j : Nat} {Qd : Hp → Prop} (G : Hp → Prop) (hG : ∀ {H H' : Hp}, Same H H' → G H → G H') (nd : l.Nodup) (ln : l.length ≤ 12) (he : H1 e = some (.lst (l.map V.str))) (g1 : G H1) (nD : H1 D = none)
    (hj : ∀ z : Str, ((wipe σ [j]).set j (some (.str z)))[j]? = some (some (V.str z))) (hw : ∀ z : Str, wipe ((wipe σ [j]).set j (some (.str z))) [j] = wipe σ [j])
    (ht : ∀ (z : Str) (H2 : Hp) (R : V → Hp → Prop), z ∈ l → Same H1 H2 → G H2 → (∀ H3, Same H2 H3 → R (.int (f z)) H3) → tv ((wipe σ [j]).set j (some (.str z))) H2 R)
    (hd : ∀ H2, H2 D = some (.dK (bk (mapN l f))) → Same H1 H2 → Qd H2) :
    ∃ W : Nat → Nat → Hp → Prop, (∃ m, W 0 m (upd H1 D (.dK []))) ∧ ∀ i m H, W i m H →
      ((Itl K e).stop i H ∧ Qd H) ∨ ((Itl K e).go i H ∧ ∃ Nx : Hp → Prop, (∀ H', Nx H' → ∃ m', m' < m ∧ W (i + 1) m' H') ∧
        ∀ x H', (Itl K e).yld i H x H' → gName j x (wipe σ [j]) H' fun σ2 H2 => wipe σ2 [j] = wipe σ [j] ∧ tYes σ2 H2 fun b H3 => if b = true then Rl.tbD (tVar j) tv D σ2 H3 Nx else Nx H3) := by
  refine Rl.gc_it (b0 := fun _ => .dK []) (walk_list (K := K) (a := e) (xs := l.map V.str)) (fun i H2 => H2 D = some (.dK (bk (mapN (l.take i) f))) ∧ Same H1 H2) ⟨upd_same, same_new nD⟩ (fun i H2 _ h => SqL.of (h.2 e _ he)) ?_ ?_
  · rintro i x H2 H2' hi ⟨hD, sm⟩ ⟨rfl, hx⟩
    rw [List.getElem?_map] at hx
    cases hy : l[i]? with
    | none => rw [hy] at hx; cases hx
    | some z =>
      rw [hy] at hx
      have hx' : V.str z = x := Option.some.inj hx
      subst hx'
      refine ⟨hw z, ?_⟩
      show Rl.tbD (tVar j) tv D (List.set (wipe σ [j]) j (some (V.str z))) H2' fun H2 => H2 D = some (HO.dK (bk (mapN (List.take (i + 1) l) f))) ∧ Same H1 H2
      refine ⟨.str z, hj z, ht z H2' _ (List.mem_of_getElem? hy) sm (hG sm g1) fun H3 s3 => ⟨_, DPut.k (k := Sum.inr z) (s3 D _ hD) ?_, ?_, ?_⟩⟩
      · rw [bk_len]
        unfold mapN
        rw [List.length_map, List.length_take]
        exact small1000 (by omega)
      · have fr : z ∉ nms (mapN (l.take i) f) := by
          unfold mapN
          rw [nms_map]
          exact take_nd nd hy
        rw [upd_same, putK_bk fr, mapN_take l f i hy]
      · exact fun c o ec => by
          have nb : c ≠ D := ne_of_none ec nD
          rw [upd_ne nb]; exact s3 c o (sm c o ec)
  · rintro H2 ⟨hD, sm⟩
    rw [List.length_map, List.take_length] at hD
    exact hd H2 hD sm
theorem nms_len (B : Br) : (nms B).length = B.length := List.length_map _
section
variable {P : Program} {w : World} {K : PySem.W.Frag} {mg : Str → Option Value} {base : Heap}
theorem scForAll : FnScope ["net", "table", "name"] ["net", "table"] (defScope sForAll) := ⟨rfl, rfl, rfl, by decide +kernel, rfl, by decide +kernel, by decide +kernel⟩
def spForAll (C : Addr) : Sp := fun vs H Q _ => ∃ (n : Addr) (t : V) (B : Br) (Pp : Pi) (Qd : Br), vs = [.ref n, t] ∧ NetAt C H n B Pp ∧ Good B Pp ∧ Tab H t B Qd ∧ ∀ H' p, Same H H' → H p = none → H' p = some (.dK (bk (fill B Qd))) → Q (.ref p) H'
theorem ok_forAll {f C f1 : Addr} {fd fd1 : FuncData} (F : Fun K "for_all_ponds" "for_all_ponds" sForAll f fd) (T : TxN K mg C)
    (m1 : Meth K C "ponds" f1) (G1 : FnOk P w K mg base CX0 1 f1 fd1 ["self"] (spPonds C)) (b1 : Binds K fd1 ["self"] []) : FnOk P w K mg base CX0 2 f fd ["net", "table"] (spForAll C) := by
  refine F.ok scForAll (fun vs H Q E h => ?_) (fun cdv A outer s H vs Q E hr h => ?_)
  · obtain ⟨n, t, B, Pp, Qd, rfl, _⟩ := h
    rfl
  · obtain ⟨n, t, B, Pp, Qd, rfl, N, good, tab, q⟩ := h
    obtain ⟨dx, d1, d2, hn, h1, h2⟩ := N.at_
    have wf := good.wf
    have lN : (nms B).length ≤ 12 := by rw [nms_len]; exact wf.lb
    refine ⟨_, pss_cons (ps_if (pt_cmp (pc_isN (pv 1))) (pss_one (ps_ret (Rl.pe_dcP (T := .dK []) (own := [("name", 2)]) (g := gName 2) (tt := tYes) (.inr rfl) hr rfl scForAll.nd (pi_list (pe_meth0 (pv 0) T.cl m1 G1 hr b1 .nil pass0))
        (blkOk_by (N := ["net", "table", "name"]) (sc := defScope sForAll) (by decide +kernel)) (fun _ _ _ _ _ => pg_name (i := 2) scForAll.nd rfl (Or.inl rfl)) (fun _ _ _ _ _ => pts_nil) (fun _ _ _ _ _ => pv 2) (fun _ _ _ _ _ => pe_int)))) pss_nil)
      (pss_one (ps_ret (Rl.pe_dcP (T := .dK []) (own := [("name", 2)]) (g := gName 2) (tt := tYes) (.inr rfl) hr rfl scForAll.nd (pi_list (pe_meth0 (pv 0) T.cl m1 G1 hr b1 .nil pass0))
        (blkOk_by (N := ["net", "table", "name"]) (sc := defScope sForAll) (by decide +kernel)) (fun _ _ _ _ _ => pg_name (i := 2) scForAll.nd rfl (Or.inl rfl)) (fun _ _ _ _ _ => pts_nil) (fun _ _ _ _ _ => pv 2) (fun _ _ _ _ _ => pe_dget2 (hu_of hr) (pv 1) (pv 2) pe_int ⟨rfl, rfl, rfl, rfl⟩)))), ?_⟩
    rcases tab.at_ with ⟨rfl, rfl⟩ | ⟨a, rfl, hA⟩
    · refine ⟨.non, rfl, true, rfl, iteT ?_⟩
      refine ⟨.ref n, rfl, n, dx, _, rfl, hn, no_attr, n, B, Pp, rfl, N, fun e ne => ?_⟩
      refine ⟨e, rfl, ⟨_, SqL.of upd_same⟩, fun D nD => ?_⟩
      refine ponds_dc (K := K) (f := fun _ => 0) (fun _ => True) (fun _ _ => trivial) wf.nb lN upd_same trivial nD (fun z => rfl) (fun z => rfl) (fun z H2 R _ _ _ h => h H2 (Same.refl _)) (fun H2 hD sm => ?_)
      exact q H2 D ((same_new ne).trans sm) ((same_new ne).free nD) hD
    · refine ⟨.ref a, rfl, false, rfl, iteF ?_⟩
      refine ⟨.ref n, rfl, n, dx, _, rfl, hn, no_attr, n, B, Pp, rfl, N, fun e ne => ?_⟩
      refine ⟨e, rfl, ⟨_, SqL.of upd_same⟩, fun D nD => ?_⟩
      refine ponds_dc (K := K) (f := val0 Qd) (fun H => H a = some (.dK (bk Qd))) (fun s h => s _ _ h) wf.nb lN upd_same ((same_new ne) a _ hA) nD (fun z => rfl) (fun z => rfl) (fun z H2 R _ _ g h => ?_) (fun H2 hD sm => ?_)
      · refine ⟨.ref a, rfl, a, rfl, .inl ⟨_, .inl g⟩, .str z, rfl, _, .inl ⟨_, Sum.inr z, .inl g, rfl, rfl⟩, ?_⟩
        rw [valV_bk, getD_val]
        exact h H2 (Same.refl _)
      · exact q H2 D ((same_new ne).trans sm) ((same_new ne).free nD) hD
/-! ### Stand's making -/
theorem scSInit : FnScope ["self", "net", "poured", "counts", "wrong"] ["self", "net", "poured", "counts"] (defScope mStand_init) := ⟨rfl, rfl, rfl, by decide +kernel, rfl, by decide +kernel, by decide +kernel⟩
def spSInit (CS C : Addr) : Sp := fun vs H Q _ => ∃ (st dx n : Addr) (t u : V) (B : Br) (Pp : Pi) (Qp Qc : Br), vs = [.ref st, .ref n, t, u] ∧ H st = some (.ins CS dx []) ∧ NetAt C H n B Pp ∧ Good B Pp ∧ Tab H t B Qp ∧ Tab H u B Qc ∧
  ∀ H', StandAt CS C H' st B Pp (fill B Qp) (fill B Qc) → (∃ dx' d1 d2, H' st = some (.ins CS dx' (sf n d1 d2)) ∧ H d1 = none ∧ H d2 = none) → (∀ b o, H b = some o → b ≠ st → H' b = some o) → Q .non H'
theorem ok_sInit {f CS C f1 f2 : Addr} {fd fd1 fd2 : FuncData} (F : FunD K "__init__" "Stand.__init__" (defArgs mStand_init) (defBody mStand_init) (defScope mStand_init) [.non, .non] [] f fd) (T : TxS K mg CS)
    (F1 : Fun K "wrong_keys" "wrong_keys" sWrong f1 fd1) (G1 : FnOk P w K mg base CX0 4 f1 fd1 ["net", "table"] (spWrong C)) (b1 : Binds K fd1 ["net", "table"] []) (g1 : mg "wrong_keys" = some (.ref f1))
    (F2 : Fun K "for_all_ponds" "for_all_ponds" sForAll f2 fd2) (G2 : FnOk P w K mg base CX0 2 f2 fd2 ["net", "table"] (spForAll C)) (b2 : Binds K fd2 ["net", "table"] []) (g2 : mg "for_all_ponds" = some (.ref f2)) :
    FnOk P w K mg base CX0 5 f fd ["self", "net", "poured", "counts"] (spSInit CS C) := by
  refine F.ok scSInit (fun vs H Q E h => ?_) (fun cdv A outer s H vs Q E hr h => ?_)
  · obtain ⟨st, dx, n, t, u, B, Pp, Qp, Qc, rfl, _⟩ := h
    rfl
  · obtain ⟨st, dx, n, t, u, B, Pp, Qp, Qc, rfl, hst, N, good, tp1, tc1, q⟩ := h
    have hr2 := hr.mono (show 2 ≤ 4 by decide)
    refine ⟨_, PSs.nox (pss_cons (ps_set (i := 4) scSInit.nd rfl (.inl rfl) (pe_call G1 hr (by rfl) g1 F1.kp b1 .nil pass0 (pa_cons (pv 1) (pa_cons (pv 2) pa_nil))))
      (pss_cons (ps_if (pt_truth (pv 4) (by intro _; rfl)) (pss_one ps_never) pss_nil)
      (pss_cons (ps_set (i := 4) scSInit.nd rfl (.inl rfl) (pe_call G1 hr (by rfl) g1 F1.kp b1 .nil pass0 (pa_cons (pv 1) (pa_cons (pv 3) pa_nil))))
      (pss_cons (ps_if (pt_truth (pv 4) (by intro _; rfl)) (pss_one ps_never) pss_nil)
      (pss_cons (ps_fld (pv 0) (pv 1) rfl)
      (pss_cons (ps_fld (pv 0) (pe_call G2 hr2 (by rfl) g2 F2.kp b2 .nil pass0 (pa_cons (pv 1) (pa_cons (pv 2) pa_nil))) rfl)
      (pss_one (ps_fld (pv 0) (pe_call G2 hr2 (by rfl) g2 F2.kp b2 .nil pass0 (pa_cons (pv 1) (pa_cons (pv 3) pa_nil))) rfl)))))))), ?_⟩
    refine ⟨.ref n, rfl, t, rfl, n, t, B, Pp, Qp, rfl, N, good, tp1, fun H1 e1 s1 _ he1 => ?_⟩
    refine ⟨.ref e1, rfl, false, .inl ⟨[], SqL.of he1, rfl⟩, iteF ?_⟩
    refine ⟨.ref n, rfl, u, rfl, n, u, B, Pp, Qc, rfl, N.same s1, good, tc1.same s1, fun H2 e2 s2 _ he2 => ?_⟩
    have s12 := s1.trans s2
    refine ⟨.ref e2, rfl, false, .inl ⟨[], SqL.of he2, rfl⟩, iteF ?_⟩
    have hs2 := s12 st _ hst
    refine ⟨.ref n, rfl, .ref st, rfl, st, CS, dx, [], rfl, hs2, T.cl, T.nN, by decide, ?_⟩
    -- behind the first store
    have kp : ∀ {H3 : Hp} {fs : List (Str × V)}, (∀ b o, H b = some o → b ≠ st → H3 b = some o) → ∀ b o, H b = some o → b ≠ st → (upd H3 st (.ins CS dx fs)) b = some o := fun {H3 fs} h b o e ne => by rw [upd_ne ne]; exact h b o e ne
    have k2 : ∀ b o, H b = some o → b ≠ st → H2 b = some o := fun b o e _ => s12 b o e
    have nst : ∀ {H3 : Hp}, (∀ b o, H b = some o → b ≠ st → H3 b = some o) → NetAt C H3 n B Pp := fun {H3} h => by
      obtain ⟨dx', d1, d2, a, b, c, e, f⟩ := N.at_
      have n1 : n ≠ st := fun e => by
        subst e
        rw [hst] at a
        have a' := Option.some.inj a
        injection a' with _ _ e3
        have e4 := nf_b d1 d2
        rw [← e3] at e4
        cases e4
      have n2 : d1 ≠ st := fun e => by subst e; rw [hst] at b; cases b
      have no : ∀ {y : Addr} {o : HO}, H y = some o → (∀ fs, o ≠ .ins CS dx fs) → H3 y = some o := fun {y o} e no => h _ _ e (fun z => by subst z; rw [hst] at e; exact no _ (Option.some.inj e).symm)
      have sd : ∀ {d : Addr} {g : Str → List (Str × Int)} {l : List Str}, SideAt H d g l → SideAt H3 d g l := fun {d g l} S => by
        obtain ⟨ls, e1, _⟩ := id S
        exact S.keep (fun x e => by rw [e1] at e; cases e; exact no e1 (fun v e => by cases e)) (fun b oq xs e => no e (fun v e => by cases e)) (fun b xs e => no e (fun v e => by cases e))
      exact ⟨dx', d1, d2, h _ _ a n1, h _ _ b n2, no c (fun v e => by cases e), sd e, sd f⟩
    have tst : ∀ {H3 : Hp} {v : V} {Qd : Br}, Tab H v B Qd → (∀ b o, H b = some o → b ≠ st → H3 b = some o) → Tab H3 v B Qd := fun {H3 v Qd} tb h => ⟨tb.at_.imp id fun ⟨a, e, z⟩ => ⟨a, e, h _ _ z (fun e => by subst e; rw [hst] at z; cases z)⟩, tb.nd, tb.ln, tb.ok⟩
    have k3 := kp (fs := putF "own_net" (.ref n) []) k2
    have hs3 : (upd H2 st (.ins CS dx (putF "own_net" (.ref n) []))) st = some (.ins CS dx (putF "own_net" (.ref n) [])) := upd_same
    obtain ⟨H3, hH3⟩ : ∃ H3, H3 = upd H2 st (.ins CS dx (putF "own_net" (.ref n) [])) := ⟨_, rfl⟩
    rw [← hH3] at k3 hs3 ⊢
    refine ⟨.ref n, rfl, t, rfl, n, t, B, Pp, Qp, rfl, nst k3, good, tst tp1 k3, fun H4 d1 s4 nd1 hd1 => ?_⟩
    have hs4 := s4 st _ hs3
    refine ⟨.ref st, rfl, st, CS, dx, _, rfl, hs4, T.cl, T.nP, (by show 1 < 1000; decide), ?_⟩
    have d1s : d1 ≠ st := Ne.symm (ne_of_none hs3 nd1)
    have k5 := kp (H3 := H4) (fs := putF "poured_by_pond" (.ref d1) (putF "own_net" (.ref n) [])) (fun b o e ne => s4 b o (k3 b o e ne))
    have hs5 : (upd H4 st (.ins CS dx (putF "poured_by_pond" (.ref d1) (putF "own_net" (.ref n) [])))) st = some (.ins CS dx (putF "poured_by_pond" (.ref d1) (putF "own_net" (.ref n) []))) := upd_same
    have hd5 : (upd H4 st (.ins CS dx (putF "poured_by_pond" (.ref d1) (putF "own_net" (.ref n) [])))) d1 = some (.dK (bk (fill B Qp))) := by rw [upd_ne d1s]; exact hd1
    obtain ⟨H5, hH5⟩ : ∃ H5, H5 = upd H4 st (.ins CS dx (putF "poured_by_pond" (.ref d1) (putF "own_net" (.ref n) []))) := ⟨_, rfl⟩
    rw [← hH5] at k5 hs5 hd5 ⊢
    refine ⟨.ref n, rfl, u, rfl, n, u, B, Pp, Qc, rfl, nst k5, good, tst tc1 k5, fun H6 d2 s6 nd2 hd2 => ?_⟩
    refine ⟨.ref st, rfl, st, CS, dx, _, rfl, s6 st _ hs5, T.cl, T.nC, (by show 2 < 1000; decide), ?_⟩
    have d2s : d2 ≠ st := Ne.symm (ne_of_none hs5 nd2)
    have k7 := kp (H3 := H6) (fs := sf n d1 d2) (fun b o e ne => s6 b o (k5 b o e ne))
    have new1 : ∀ {H3 : Hp} {d : Addr}, (∀ b o, H b = some o → b ≠ st → H3 b = some o) → d ≠ st → H3 d = none → H d = none := fun {H3 d} h ns e => by
      cases eh : H d with
      | none => rfl
      | some o => rw [h d o eh ns] at e; cases e
    refine q _ ⟨dx, n, d1, d2, upd_same, nst k7, by rw [upd_ne d1s]; exact s6 d1 _ hd5, by rw [upd_ne d2s]; exact hd2⟩ ⟨dx, d1, d2, upd_same, new1 k3 d1s nd1, new1 k5 d2s nd2⟩ k7
end
end Nl
end
section
set_option maxHeartbeats 1000000
namespace Nl
open PySem PySem.Spec PyProof.Rows L2 Nt
/-- every pond has its number -/
structure Full (B Qd : Br) : Prop where
  nm : nms Qd = nms B
theorem fill_full (B Qd : Br) : Full B (fill B Qd) := ⟨fill_nms B Qd⟩
theorem Full.get {B Qd : Br} (h : Full B Qd) {z : Str} (m : z ∈ nms B) : getB Qd z = some (val0 Qd z) := by
  rw [← h.nm] at m
  obtain ⟨b, e⟩ := getB_some m
  unfold val0
  rw [e]; rfl
theorem val0_fill {B Qd : Br} (nd : (nms B).Nodup) {z : Str} (m : z ∈ nms B) : val0 (fill B Qd) z = val0 Qd z := by
  have := getB_map (f := val0 Qd) nd m
  unfold fill
  unfold val0 at this ⊢
  rw [this]; rfl
def waterOf (B : Br) (Pp : Pi) (Qp Qc : Br) (z : Str) : Int := val0 Qp z + ((insOf Pp z).map fun p => p.2 * val0 Qc p.1).sum - val0 B z * val0 Qc z
theorem insOf_mem {Pp : Pi} {z : Str} {p : Str × Int} (h : p ∈ insOf Pp z) : ((p.1, z), p.2) ∈ Pp := by
  unfold insOf at h
  obtain ⟨q, hq, e⟩ := List.mem_map.mp h
  obtain ⟨h1, h2⟩ := List.mem_filter.mp hq
  have h3 : q.1.2 = z := of_decide_eq_true h2
  subst e
  subst h3
  exact h1
theorem insOf_len (Pp : Pi) (z : Str) : (insOf Pp z).length ≤ Pp.length := by
  unfold insOf
  rw [List.length_map]
  exact List.length_filter_le _ _
section
variable {P : Program} {w : World} {K : PySem.W.Frag} {mg : Str → Option Value} {base : Heap}
theorem scSNet : FnScope ["self"] ["self"] (defScope mStand_net) := ⟨rfl, rfl, rfl, by decide +kernel, rfl, by decide +kernel, by decide +kernel⟩
def spSNet (CS C : Addr) : Sp := fun vs H Q _ => ∃ (s : Addr) (B : Br) (Pp : Pi) (Qp Qc : Br), vs = [.ref s] ∧ StandAt CS C H s B Pp Qp Qc ∧ ∀ n, NetAt C H n B Pp → (∃ dx d1 d2, H s = some (.ins CS dx (sf n d1 d2))) → Q (.ref n) H
theorem ok_sNet {f CS C : Addr} {fd : FuncData} {k : Nat} (F : Fun K "net" "Stand.net" mStand_net f fd) (T : TxS K mg CS) : FnOk P w K mg base CX0 (k + 1) f fd ["self"] (spSNet CS C) := by
  refine F.ok scSNet (fun vs H Q E h => ?_) (fun cdv A outer s H vs Q E hr h => ?_)
  · obtain ⟨s, B, Pp, Qp, Qc, rfl, _⟩ := h
    rfl
  · obtain ⟨s, B, Pp, Qp, Qc, rfl, ⟨dx, n, d1, d2, hs, N, h1, h2⟩, q⟩ := h
    exact ⟨_, pss_one (ps_ret (pe_fld (pv 0) rfl)), .ref s, rfl, s, CS, dx, _, _, rfl, hs, T.cl, T.nN, sf_n n d1 d2, q n N ⟨dx, d1, d2, hs⟩⟩
theorem scPoured : FnScope ["self", "name"] ["self", "name"] (defScope mStand_poured) := ⟨rfl, rfl, rfl, by decide +kernel, rfl, by decide +kernel, by decide +kernel⟩
def spPoured (CS C : Addr) : Sp := fun vs H Q _ => ∃ (s : Addr) (B : Br) (Pp : Pi) (Qp Qc : Br) (z : Str), vs = [.ref s, .str z] ∧ StandAt CS C H s B Pp Qp Qc ∧ Full B Qp ∧ Nm z ∧ z ∈ nms B ∧ ∀ H', Same H H' → Q (.int (val0 Qp z)) H'
theorem ok_poured {f CS C f1 : Addr} {fd fd1 : FuncData} (F : Fun K "poured" "Stand.poured" mStand_poured f fd) (T : TxS K mg CS) (TN : TxN K mg C) (m1 : Meth K C "check_pond" f1) (G1 : FnOk P w K mg base CX0 4 f1 fd1 ["self", "thing"] (spChk C)) (b1 : Binds K fd1 ["self", "thing"] []) :
    FnOk P w K mg base CX0 5 f fd ["self", "name"] (spPoured CS C) := by
  refine F.ok scPoured (fun vs H Q E h => ?_) (fun cdv A outer s H vs Q E hr h => ?_)
  · obtain ⟨s, B, Pp, Qp, Qc, z, rfl, _⟩ := h
    rfl
  · obtain ⟨s, B, Pp, Qp, Qc, z, rfl, ⟨dx, n, d1, d2, hs, N, h1, h2⟩, fu, nz, mz, q⟩ := h
    refine ⟨_, pss_cons (ps_expr (pe_meth (pe_fld (pv 0) rfl) TN.cl m1 G1 hr b1 .nil pass0 (pa_cons (pv 1) pa_nil))) (pss_one (ps_ret (pe_dget (hu_of hr) (pe_fld (pv 0) rfl) (pv 1) (fun _ _ => rfl)))), ?_⟩
    obtain ⟨dxn, e1, e2, hn, _, _⟩ := N.at_
    refine ⟨.ref s, rfl, s, CS, dx, _, _, rfl, hs, T.cl, T.nN, sf_n n d1 d2, n, dxn, _, rfl, hn, no_attr, .str z, rfl, n, B, Pp, z, rfl, N, nz, mz, fun H1 s1 => ?_⟩
    exact ⟨.ref s, rfl, s, CS, dx, _, _, rfl, s1 s _ hs, T.cl, T.nP, sf_p n d1 d2, .str z, rfl, d1, .int (val0 Qp z), rfl, .inl ⟨_, Sum.inr z, .inl (s1 d1 _ h1), rfl, by rw [valV_bk, fu.get mz]; rfl⟩, q H1 s1⟩
theorem scCount : FnScope ["self", "name"] ["self", "name"] (defScope mStand_count) := ⟨rfl, rfl, rfl, by decide +kernel, rfl, by decide +kernel, by decide +kernel⟩
def spCount (CS C : Addr) : Sp := fun vs H Q _ => ∃ (s : Addr) (B : Br) (Pp : Pi) (Qp Qc : Br) (z : Str), vs = [.ref s, .str z] ∧ StandAt CS C H s B Pp Qp Qc ∧ Full B Qc ∧ Nm z ∧ z ∈ nms B ∧ ∀ H', Same H H' → Q (.int (val0 Qc z)) H'
theorem ok_count {f CS C f1 : Addr} {fd fd1 : FuncData} (F : Fun K "count" "Stand.count" mStand_count f fd) (T : TxS K mg CS) (TN : TxN K mg C) (m1 : Meth K C "check_pond" f1) (G1 : FnOk P w K mg base CX0 4 f1 fd1 ["self", "thing"] (spChk C)) (b1 : Binds K fd1 ["self", "thing"] []) :
    FnOk P w K mg base CX0 5 f fd ["self", "name"] (spCount CS C) := by
  refine F.ok scCount (fun vs H Q E h => ?_) (fun cdv A outer s H vs Q E hr h => ?_)
  · obtain ⟨s, B, Pp, Qp, Qc, z, rfl, _⟩ := h
    rfl
  · obtain ⟨s, B, Pp, Qp, Qc, z, rfl, ⟨dx, n, d1, d2, hs, N, h1, h2⟩, fu, nz, mz, q⟩ := h
    refine ⟨_, pss_cons (ps_expr (pe_meth (pe_fld (pv 0) rfl) TN.cl m1 G1 hr b1 .nil pass0 (pa_cons (pv 1) pa_nil))) (pss_one (ps_ret (pe_dget (hu_of hr) (pe_fld (pv 0) rfl) (pv 1) (fun _ _ => rfl)))), ?_⟩
    obtain ⟨dxn, e1, e2, hn, _, _⟩ := N.at_
    refine ⟨.ref s, rfl, s, CS, dx, _, _, rfl, hs, T.cl, T.nN, sf_n n d1 d2, n, dxn, _, rfl, hn, no_attr, .str z, rfl, n, B, Pp, z, rfl, N, nz, mz, fun H1 s1 => ?_⟩
    exact ⟨.ref s, rfl, s, CS, dx, _, _, rfl, s1 s _ hs, T.cl, T.nC, sf_c n d1 d2, .str z, rfl, d2, .int (val0 Qc z), rfl, .inl ⟨_, Sum.inr z, .inl (s1 d2 _ h2), rfl, by rw [valV_bk, fu.get mz]; rfl⟩, q H1 s1⟩
theorem scWater : FnScope ["self", "name", "came", "one", "width"] ["self", "name"] (defScope mStand_water) := ⟨rfl, rfl, rfl, by decide +kernel, rfl, by decide +kernel, by decide +kernel⟩
def spWater (CS C : Addr) : Sp := fun vs H Q _ => ∃ (s : Addr) (B : Br) (Pp : Pi) (Qp Qc : Br) (z : Str), vs = [.ref s, .str z] ∧ StandAt CS C H s B Pp Qp Qc ∧ Good B Pp ∧ Full B Qp ∧ Full B Qc ∧ z ∈ nms B ∧ ∀ H', Same H H' → Q (.int (waterOf B Pp Qp Qc z)) H'
theorem ok_water {f CS C f1 f2 : Addr} {fd fd1 fd2 : FuncData} (F : Fun K "water" "Stand.water" mStand_water f fd) (T : TxS K mg CS) (TN : TxN K mg C)
    (m1 : Meth K C "ins" f1) (G1 : FnOk P w K mg base CX0 5 f1 fd1 ["self", "name"] (spIns C)) (b1 : Binds K fd1 ["self", "name"] [])
    (m2 : Meth K C "brim" f2) (G2 : FnOk P w K mg base CX0 5 f2 fd2 ["self", "name"] (spBrim C)) (b2 : Binds K fd2 ["self", "name"] []) (ms : mg "sum" = none) :
    FnOk P w K mg base CX0 6 f fd ["self", "name"] (spWater CS C) := by
  refine F.ok scWater (fun vs H Q E h => ?_) (fun cdv A outer s H vs Q E hr h => ?_)
  · obtain ⟨s, B, Pp, Qp, Qc, z, rfl, _⟩ := h
    rfl
  · obtain ⟨s, B, Pp, Qp, Qc, z, rfl, ⟨dx, n, d1, d2, hs, N, h1, h2⟩, good, fp, fc, mz, q⟩ := h
    have wf := good.wf
    have hu := hu_of hr
    refine ⟨_, pss_cons (ps_set (i := 2) scWater.nd rfl (.inl rfl) (pe_callB (cr_sum rfl) (by rfl) ms (by decide +kernel) (pa_cons (pe_lc (own := [("one", 3), ("width", 4)])
        (g := gTup K 2 (gCons (gName 3) (gCons (gName 4) gNil))) (tt := tYes) (te := tOp (rI CMul fun i j => .int (i * j)) (tVar 4) (tDGet (tFld K (tVar 0) "count_by_pond") (tVar 3))) rfl scWater.nd
        (pi_list (pe_meth (pe_fld (pv 0) rfl) TN.cl m1 G1 hr b1 .nil pass0 (pa_cons (pv 1) pa_nil)))
        (blkOk_by (N := ["self", "name", "came", "one", "width"]) (sc := defScope mStand_water) (by decide +kernel))
        (fun _ _ _ _ _ => pg_tup rfl (pgs_cons (pg_name (i := 3) scWater.nd rfl (Or.inl rfl)) (pgs_cons (pg_name (i := 4) scWater.nd rfl (Or.inl rfl)) pgs_nil)))
        (fun _ _ _ _ _ => pts_nil) (fun _ _ _ _ _ => pe_op op_mul (pv 4) (pe_dget hu (pe_fld (pv 0) rfl) (pv 3) (fun _ _ => rfl)))) pa_nil)))
      (pss_one (ps_ret (pe_op op_sub (pe_op op_add (pe_dget hu (pe_fld (pv 0) rfl) (pv 1) (fun _ _ => rfl)) (pv 2)) (pe_op op_mul (pe_meth (pe_fld (pv 0) rfl) TN.cl m2 G2 hr b2 .nil pass0 (pa_cons (pv 1) pa_nil)) (pe_dget hu (pe_fld (pv 0) rfl) (pv 1) (fun _ _ => rfl)))))), ?_⟩
    obtain ⟨dxn, e1, e2, hn, _, _⟩ := N.at_
    obtain ⟨bz, gz⟩ := getB_some mz
    have rz := wf.rb _ (getB_mem gz)
    have nz : Nm z := rz.1
    refine ⟨.ref s, rfl, s, CS, dx, _, _, rfl, hs, T.cl, T.nN, sf_n n d1 d2, n, dxn, _, rfl, hn, no_attr, .str z, rfl, n, B, Pp, z, rfl, N, good, nz, mz, fun H1 p as s1 np hp pA => ?_⟩
    refine ⟨p, rfl, ⟨_, SqL.of hp⟩, fun D nD => ?_⟩
    refine lc_it (n := (as.map V.ref).length) (walk_list (xs := as.map V.ref)) (fun i H2 => H2 D = some (.lst ((((insOf Pp z).take i).map fun p => p.2 * val0 Qc p.1).map V.int)) ∧ Same H1 H2) ⟨upd_same, same_new nD⟩ (fun i H2 _ h => SqL.of (h.2 p _ hp)) ?_ ?_
    · rintro i x H2 H2' hi ⟨hD, sm⟩ ⟨rfl, hx⟩
      rw [List.length_map, pA.1] at hi
      have hy : (insOf Pp z)[i]? = some (insOf Pp z)[i] := List.getElem?_eq_getElem hi
      obtain ⟨t, ht, hT⟩ := pA.2 i _ hy
      obtain ⟨y, hyd⟩ : ∃ y, y = (insOf Pp z)[i] := ⟨_, rfl⟩
      rw [← hyd] at hy hT
      have hx' : V.ref t = x := by
        rw [List.getElem?_map, ht] at hx
        exact Option.some.inj hx
      subst hx'
      have my := insOf_mem (List.mem_of_getElem? hy)
      have ry := wf.rp _ my
      refine ⟨t, [.str y.1, .int y.2], rfl, SqT.of (sm t _ hT), rfl, .str y.1, [.int y.2], rfl, .int y.2, [], rfl, rfl, rfl, ?_⟩
      show (tOp (rI CMul fun i j => .int (i * j)) (tVar 4) (tDGet (tFld K (tVar 0) "count_by_pond") (tVar 3))) _ H2' _
      refine ⟨.int y.2, rfl, .ref s, rfl, s, CS, dx, _, _, rfl, sm s _ (s1 s _ hs), T.cl, T.nC, sf_c n d1 d2, .str y.1, rfl, d2, .int (val0 Qc y.1), rfl, .inl ⟨_, Sum.inr y.1, .inl (sm d2 _ (s1 d2 _ h2)), rfl, by rw [valV_bk, fc.get ry.1]; rfl⟩, y.2, _, rfl, rfl, ?_, _, hD, ?_, ?_, ?_⟩
      · have := ry.2.2.2
        exact .inl ⟨by have := this.1; omega, by have := this.2; omega⟩
      · rw [List.length_map, List.length_map, List.length_take]
        have := insOf_len Pp z
        have := wf.lp
        exact small1000 (by omega)
      · rw [upd_same, List.take_add_one, hy, List.map_append, List.map_append]; rfl
      · exact fun c o ec => by
          have nb : c ≠ D := ne_of_none ec nD
          rw [upd_ne nb]; exact sm c o ec
    · rintro H2 ⟨hD, sm⟩
      rw [List.length_map, pA.1, List.take_length] at hD
      refine ⟨D, _, rfl, SqL.of hD, ?_⟩
      have sA := s1.trans sm
      refine ⟨.ref s, rfl, s, CS, dx, _, _, rfl, sA s _ hs, T.cl, T.nP, sf_p n d1 d2, .str z, rfl, d1, .int (val0 Qp z), rfl, .inl ⟨_, Sum.inr z, .inl (sA d1 _ h1), rfl, by rw [valV_bk, fp.get mz]; rfl⟩, _, rfl, _, _, rfl, rfl, ?_⟩
      refine ⟨.ref s, rfl, s, CS, dx, _, _, rfl, sA s _ hs, T.cl, T.nN, sf_n n d1 d2, n, dxn, _, rfl, sA n _ hn, no_attr, .str z, rfl, n, B, Pp, z, bz, rfl, N.same sA, nz, gz, fun H3 s3 => ?_⟩
      have sB := sA.trans s3
      refine ⟨.ref s, rfl, s, CS, dx, _, _, rfl, sB s _ hs, T.cl, T.nC, sf_c n d1 d2, .str z, rfl, d2, .int (val0 Qc z), rfl, .inl ⟨_, Sum.inr z, .inl (sB d2 _ h2), rfl, by rw [valV_bk, fc.get mz]; rfl⟩, _, _, rfl, rfl, .inl ⟨by have := rz.2; omega, by have := rz.2; omega⟩, _, _, rfl, rfl, ?_⟩
      have := q H3 sB
      unfold waterOf at this
      rw [show val0 B z = bz by unfold val0; rw [gz]; rfl] at this
      exact this
theorem scCounts : FnScope ["self", "name"] ["self"] (defScope mStand_counts) := ⟨rfl, rfl, rfl, by decide +kernel, rfl, by decide +kernel, by decide +kernel⟩
def spCounts (CS C : Addr) : Sp := fun vs H Q _ => ∃ (s : Addr) (B : Br) (Pp : Pi) (Qp Qc : Br), vs = [.ref s] ∧ StandAt CS C H s B Pp Qp Qc ∧ (nms Qc).Nodup ∧ Qc.length ≤ 12 ∧ ∀ H' p, Same H H' → H p = none → H' p = some (.dK (bk Qc)) → Q (.ref p) H'
theorem ok_counts {f CS C : Addr} {fd : FuncData} {k : Nat} (F : Fun K "counts" "Stand.counts" mStand_counts f fd) (T : TxS K mg CS) : FnOk P w K mg base CX0 (k + 1) f fd ["self"] (spCounts CS C) := by
  refine F.ok scCounts (fun vs H Q E h => ?_) (fun cdv A outer s H vs Q E hr h => ?_)
  · obtain ⟨s, B, Pp, Qp, Qc, rfl, _⟩ := h
    rfl
  · obtain ⟨s, B, Pp, Qp, Qc, rfl, ⟨dx, n, d1, d2, hs, N, h1, h2⟩, nd, ln, q⟩ := h
    refine ⟨_, pss_one (ps_ret (pe_lock (Rl.pe_dcP (T := .dK []) (own := [("name", 1)]) (g := gName 1) (tt := tYes) (tk := tVar 1) (tv := tDGet (tFld K (tVar 0) "count_by_pond") (tVar 1)) (.inr rfl) hr rfl scCounts.nd (pi_keys (pe_fld (pv 0) rfl))
      (blkOk_by (N := ["self", "name"]) (sc := defScope mStand_counts) (by decide +kernel)) (fun _ _ _ _ _ => pg_name (i := 1) scCounts.nd rfl (Or.inl rfl)) (fun _ _ _ _ _ => pts_nil)
      (fun _ _ _ _ _ => pv 1) (fun _ _ _ _ _ => pe_dget (hu_of hr) (pe_fld (pv 0) rfl) (pv 1) (fun _ _ => rfl))))), ?_⟩
    have nd1 : s ≠ d2 := fun e => by subst e; rw [hs] at h2; cases h2
    refine ⟨d2, _, h2, trivial, fun od => ?_⟩
    refine ⟨.ref s, rfl, s, CS, dx, _, _, rfl, (by rw [upd_ne nd1]; exact hs), T.cl, T.nC, sf_c n d1 d2, d2, od, rfl, .inl ⟨_, upd_same, fun D nD => ?_⟩⟩
    have hDd : D ≠ d2 := fun e => by subst e; rw [upd_same] at nD; cases nD
    have nDH : H D = none := by rw [upd_ne hDd] at nD; exact nD
    refine Rl.gc_it (n := (bk Qc).length) (b0 := fun _ => .dK []) walk_keys (fun i H2 => H2 D = some (.dK (bk (Qc.take i))) ∧ Same (upd H d2 (.frz od (.dK (bk Qc)))) H2) ⟨upd_same, same_new nD⟩ (fun i H2 _ h => h.2 d2 _ upd_same) ?_ ?_
    · rintro i x H2 H2' hi ⟨hD, sm⟩ ⟨rfl, kk, v, hkv, rfl⟩
      obtain ⟨p, hp, rfl, rfl⟩ := bk_at hkv
      have hm := List.mem_of_getElem? hp
      refine ⟨rfl, .str p.1, rfl, .ref s, rfl, s, CS, dx, _, _, rfl, sm s _ (by rw [upd_ne nd1]; exact hs), T.cl, T.nC, sf_c n d1 d2, .str p.1, rfl, d2, .int p.2, rfl, .inl ⟨_, Sum.inr p.1, .inr ⟨od, sm d2 _ upd_same⟩, rfl, ?_⟩, _, DPut.k (k := Sum.inr p.1) hD ?_, ?_, ?_⟩
      · rw [valV_bk, getB_of_mem nd hm]; rfl
      · rw [bk_len, List.length_take]; exact small1000 (by omega)
      · have fr : p.1 ∉ nms (Qc.take i) := by
          have h3 : (nms Qc)[i]? = some p.1 := by unfold nms; rw [List.getElem?_map, hp]; rfl
          have h4 := take_nd nd h3
          unfold nms at h4 ⊢
          rw [← List.map_take] at h4; exact h4
        rw [upd_same, putK_bk fr, List.take_add_one, hp]; rfl
      · exact fun c o ec => by
          have nb : c ≠ D := ne_of_none ec nD
          rw [upd_ne nb]; exact sm c o ec
    · rintro H2 ⟨hD, sm⟩
      obtain ⟨l1, l2⟩ := same_lock h2 sm
      rw [bk_len, List.take_length] at hD
      exact ⟨l1, q _ D l2 nDH (by rw [upd_ne hDd]; exact hD)⟩
end
end Nl
end
section
set_option maxHeartbeats 1000000
namespace Nl
open PySem PySem.Spec PyProof.Rows L2 Nt
section
variable {P : Program} {w : World} {K : PySem.W.Frag} {mg : Str → Option Value} {base : Heap}
theorem scPours : FnScope ["self", "name"] ["self"] (defScope mStand_pours) := ⟨rfl, rfl, rfl, by decide +kernel, rfl, by decide +kernel, by decide +kernel⟩
def spPours (CS C : Addr) : Sp := fun vs H Q _ => ∃ (s : Addr) (B : Br) (Pp : Pi) (Qp Qc : Br), vs = [.ref s] ∧ StandAt CS C H s B Pp Qp Qc ∧ (nms Qp).Nodup ∧ Qp.length ≤ 12 ∧ ∀ H' p, Same H H' → H p = none → H' p = some (.dK (bk Qp)) → Q (.ref p) H'
theorem ok_pours {f CS C : Addr} {fd : FuncData} {k : Nat} (F : Fun K "pours" "Stand.pours" mStand_pours f fd) (T : TxS K mg CS) : FnOk P w K mg base CX0 (k + 1) f fd ["self"] (spPours CS C) := by
  refine F.ok scPours (fun vs H Q E h => ?_) (fun cdv A outer s H vs Q E hr h => ?_)
  · obtain ⟨s, B, Pp, Qp, Qc, rfl, _⟩ := h
    rfl
  · obtain ⟨s, B, Pp, Qp, Qc, rfl, ⟨dx, n, d1, d2, hs, N, h1, h2⟩, nd, ln, q⟩ := h
    refine ⟨_, pss_one (ps_ret (pe_lock (Rl.pe_dcP (T := .dK []) (own := [("name", 1)]) (g := gName 1) (tt := tYes) (tk := tVar 1) (tv := tDGet (tFld K (tVar 0) "poured_by_pond") (tVar 1)) (.inr rfl) hr rfl scPours.nd (pi_keys (pe_fld (pv 0) rfl))
      (blkOk_by (N := ["self", "name"]) (sc := defScope mStand_pours) (by decide +kernel)) (fun _ _ _ _ _ => pg_name (i := 1) scPours.nd rfl (Or.inl rfl)) (fun _ _ _ _ _ => pts_nil)
      (fun _ _ _ _ _ => pv 1) (fun _ _ _ _ _ => pe_dget (hu_of hr) (pe_fld (pv 0) rfl) (pv 1) (fun _ _ => rfl))))), ?_⟩
    have nd1 : s ≠ d1 := fun e => by subst e; rw [hs] at h1; cases h1
    refine ⟨d1, _, h1, trivial, fun od => ?_⟩
    refine ⟨.ref s, rfl, s, CS, dx, _, _, rfl, (by rw [upd_ne nd1]; exact hs), T.cl, T.nP, sf_p n d1 d2, d1, od, rfl, .inl ⟨_, upd_same, fun D nD => ?_⟩⟩
    have hDd : D ≠ d1 := fun e => by subst e; rw [upd_same] at nD; cases nD
    have nDH : H D = none := by rw [upd_ne hDd] at nD; exact nD
    refine Rl.gc_it (n := (bk Qp).length) (b0 := fun _ => .dK []) walk_keys (fun i H2 => H2 D = some (.dK (bk (Qp.take i))) ∧ Same (upd H d1 (.frz od (.dK (bk Qp)))) H2) ⟨upd_same, same_new nD⟩ (fun i H2 _ h => h.2 d1 _ upd_same) ?_ ?_
    · rintro i x H2 H2' hi ⟨hD, sm⟩ ⟨rfl, kk, v, hkv, rfl⟩
      obtain ⟨p, hp, rfl, rfl⟩ := bk_at hkv
      have hm := List.mem_of_getElem? hp
      refine ⟨rfl, .str p.1, rfl, .ref s, rfl, s, CS, dx, _, _, rfl, sm s _ (by rw [upd_ne nd1]; exact hs), T.cl, T.nP, sf_p n d1 d2, .str p.1, rfl, d1, .int p.2, rfl, .inl ⟨_, Sum.inr p.1, .inr ⟨od, sm d1 _ upd_same⟩, rfl, ?_⟩, _, DPut.k (k := Sum.inr p.1) hD ?_, ?_, ?_⟩
      · rw [valV_bk, getB_of_mem nd hm]; rfl
      · rw [bk_len, List.length_take]; exact small1000 (by omega)
      · have fr : p.1 ∉ nms (Qp.take i) := by
          have h3 : (nms Qp)[i]? = some p.1 := by unfold nms; rw [List.getElem?_map, hp]; rfl
          have h4 := take_nd nd h3
          unfold nms at h4 ⊢
          rw [← List.map_take] at h4; exact h4
        rw [upd_same, putK_bk fr, List.take_add_one, hp]; rfl
      · exact fun c o ec => by
          have nb : c ≠ D := ne_of_none ec nD
          rw [upd_ne nb]; exact sm c o ec
    · rintro H2 ⟨hD, sm⟩
      obtain ⟨l1, l2⟩ := same_lock h1 sm
      rw [bk_len, List.take_length] at hD
      exact ⟨l1, q _ D l2 nDH (by rw [upd_ne hDd]; exact hD)⟩
end
end Nl
end
section
set_option maxHeartbeats 1000000
namespace Nl
open PySem PySem.Spec PyProof.Rows L2 Nt
section
variable {P : Program} {w : World} {K : PySem.W.Frag} {mg : Str → Option Value} {base : Heap}
theorem scWaters : FnScope ["self", "name"] ["self"] (defScope mStand_waters) := ⟨rfl, rfl, rfl, by decide +kernel, rfl, by decide +kernel, by decide +kernel⟩
def spWaters (CS C : Addr) : Sp := fun vs H Q _ => ∃ (s : Addr) (B : Br) (Pp : Pi) (Qp Qc : Br), vs = [.ref s] ∧ StandAt CS C H s B Pp Qp Qc ∧ Good B Pp ∧ Full B Qp ∧ Full B Qc ∧ ∀ H' p, Same H H' → H p = none → H' p = some (.dK (bk (mapN (nms B) (waterOf B Pp Qp Qc)))) → Q (.ref p) H'
theorem ok_waters {f CS C f1 f2 : Addr} {fd fd1 fd2 : FuncData} (F : Fun K "waters" "Stand.waters" mStand_waters f fd) (T : TxS K mg CS) (TN : TxN K mg C)
    (m1 : Meth K C "ponds" f1) (G1 : FnOk P w K mg base CX0 1 f1 fd1 ["self"] (spPonds C)) (b1 : Binds K fd1 ["self"] [])
    (m2 : Meth K CS "water" f2) (G2 : FnOk P w K mg base CX0 6 f2 fd2 ["self", "name"] (spWater CS C)) (b2 : Binds K fd2 ["self", "name"] []) :
    FnOk P w K mg base CX0 7 f fd ["self"] (spWaters CS C) := by
  refine F.ok scWaters (fun vs H Q E h => ?_) (fun cdv A outer s H vs Q E hr h => ?_)
  · obtain ⟨s, B, Pp, Qp, Qc, rfl, _⟩ := h
    rfl
  · obtain ⟨s, B, Pp, Qp, Qc, rfl, S, good, fp, fc, q⟩ := h
    obtain ⟨dx, n, d1, d2, hs, N, h1, h2⟩ := S.at_
    have wf := good.wf
    have lN : (nms B).length ≤ 12 := by rw [nms_len]; exact wf.lb
    refine ⟨_, pss_one (ps_ret (Rl.pe_dcP (T := .dK []) (own := [("name", 1)]) (g := gName 1) (tt := tYes) (.inr rfl) hr rfl scWaters.nd (pi_list (pe_meth0 (pe_fld (pv 0) rfl) TN.cl m1 G1 (hr.mono (by decide)) b1 .nil pass0))
        (blkOk_by (N := ["self", "name"]) (sc := defScope mStand_waters) (by decide +kernel)) (fun _ _ _ _ _ => pg_name (i := 1) scWaters.nd rfl (Or.inl rfl)) (fun _ _ _ _ _ => pts_nil) (fun _ _ _ _ _ => pv 1)
        (fun _ _ _ _ _ => pe_meth (pv 0) T.cl m2 G2 hr b2 .nil pass0 (pa_cons (pv 1) pa_nil)))), ?_⟩
    obtain ⟨dxn, e1, e2, hn, _, _⟩ := N.at_
    refine ⟨.ref s, rfl, s, CS, dx, _, _, rfl, hs, T.cl, T.nN, sf_n n d1 d2, n, dxn, _, rfl, hn, no_attr, n, B, Pp, rfl, N, fun e ne => ?_⟩
    refine ⟨e, rfl, ⟨_, SqL.of upd_same⟩, fun D nD => ?_⟩
    refine ponds_dc (K := K) (f := waterOf B Pp Qp Qc) (fun H => H s = some (.ins CS dx (sf n d1 d2)) ∧ StandAt CS C H s B Pp Qp Qc) (fun sm h => ⟨sm _ _ h.1, h.2.same sm⟩) wf.nb lN upd_same ⟨same_new ne s _ hs, S.same (same_new ne)⟩ nD (fun z => rfl) (fun z => rfl) (fun z H2 R mz _ g h => ?_) (fun H2 hD sm => ?_)
    · exact ⟨.ref s, rfl, s, dx, _, rfl, g.1, sf_no, .str z, rfl, s, B, Pp, Qp, Qc, z, rfl, g.2, good, fp, fc, mz, h⟩
    · exact q H2 D ((same_new ne).trans sm) ((same_new ne).free nD) hD
end
end Nl
end
section
set_option maxHeartbeats 1000000
namespace Nl
open PySem PySem.Spec PyProof.Rows L2 Nt
theorem scDraw : FnScope ["_law_pot_here", "_law_many", "_law_digit"] ["_law_pot_here", "_law_many"] (defScope sDraw) :=
  ⟨rfl, rfl, rfl, by decide +kernel, rfl, by decide +kernel, by decide +kernel⟩
theorem scPot : FnScope ["_law_script", "_law_k", "_law_cell"] ["_law_script", "_law_k"] (defScope sPot) :=
  ⟨rfl, rfl, rfl, by decide +kernel, rfl, by decide +kernel, by decide +kernel⟩
/-! ### the pot -/
def PotOk (a b : Int) : Prop := 0 ≤ a ∧ 0 ≤ b ∧ b < 4294967296
def PotAt (H : Hp) (p : Addr) : Prop := ∃ a b, H p = some (.lst [.int a, .int b]) ∧ PotOk a b
theorem Kp.refl (p : Addr) (H : Hp) : Kp p H H := fun _ _ _ e => e
theorem no_pylong {i j : Int} (h0 : 0 < j) (h1 : j < 2 ^ 200) : CDivP i j := by
  refine ⟨h0, ?_⟩
  have hn : j.natAbs < 2 ^ 200 := by omega
  have hl : j.natAbs.log2 < 200 := by
    rw [Nat.log2_lt (by omega)]; exact hn
  have hd : j.natAbs.log2 / 30 ≤ 6 := by omega
  unfold Builtin.divisionGoesByPylong
  have h3 : ∀ k : Nat, 300 ≤ k → ¬ (k < j.natAbs.log2 / 30 + 1) := fun k hk => by omega
  simp only [Bool.and_eq_true, decide_eq_true_eq, Bool.and_eq_false_iff, decide_eq_false_iff_not]
  split <;> first | (left; omega) | omega | simp
theorem PotAt.new {H : Hp} {p q : Addr} {o : HO} (h : PotAt H p) (n : H q = none) : PotAt (upd H q o) p := by
  obtain ⟨a, b, hp, hab⟩ := h
  exact ⟨a, b, by rw [upd_ne (ne_of_none hp n)]; exact hp, hab⟩
theorem PotAt.ne {H : Hp} {p q : Addr} (h : PotAt H p) (n : H q = none) : q ≠ p := by
  obtain ⟨a, b, hp, hab⟩ := h
  exact Ne.symm (ne_of_none hp n)
theorem PotAt.put {H : Hp} {p q : Addr} {o : HO} (h : PotAt H p) (n : q ≠ p) : PotAt (upd H q o) p := by
  obtain ⟨a, b, hp, hab⟩ := h
  exact ⟨a, b, by rw [upd_ne (Ne.symm n)]; exact hp, hab⟩
section
variable {P : Program} {w : World} {K : PySem.W.Frag} {mg : Str → Option Value} {base : Heap}
/-! ### draw -/
def spDraw : Sp := fun vs H Q _ => ∃ (p : Addr) (m : Int), vs = [.ref p, .int m] ∧ PotAt H p ∧ 0 < m ∧ m < 2 ^ 200 ∧
  ∀ d H', Kp p H H' → PotAt H' p → 0 ≤ d → d < m → Q (.int d) H'
theorem ok_draw {f : Addr} {fd : FuncData} {k : Nat} (F : Fun K "_law_draw" "_law_draw" sDraw f fd) (md : mg "divmod" = none) :
    FnOk P w K mg base CX0 (k + 1) f fd ["_law_pot_here", "_law_many"] spDraw := by
  refine F.ok scDraw (fun vs H Q E h => ?_) (fun cdv A outer s H vs Q E hr h => ?_)
  · obtain ⟨p, m, rfl, _⟩ := h
    rfl
  · obtain ⟨p, m, rfl, ⟨a, b, hp, ha, hb, hb2⟩, m0, m1, q⟩ := h
    refine ⟨_, pss_cons (ps_if (pt_cmpR op_gt (pe_ix ix_list (pv 0) pe_int (fun _ _ => rfl)) pe_int (nomark _))
        (pss_cons (ps_asg (pe_callB call_divmodW (by rfl) md (by decide +kernel) (pa_cons (pe_ix ix_list (pv 0) pe_int (fun _ _ => rfl)) (pa_cons (pv 1) pa_nil)))
            (pg_tup rfl (pgs_cons (pg_sub (pv 0) pe_int set_list) (pgs_cons (pg_name (i := 2) scDraw.nd rfl (.inl rfl)) pgs_nil))))
          (pss_one (ps_ret (pv 2)))) pss_nil)
      (pss_cons (ps_asg (pe_op op_mod (pe_op op_add (pe_op op_mul (pe_ix ix_list (pv 0) pe_int (fun _ _ => rfl)) pe_int) pe_int) pe_int) (pg_sub (pv 0) pe_int set_list))
      (pss_one (ps_ret (pe_op op_mod (pe_op op_fdiv (pe_op op_mod (pe_op op_mul (pe_ix ix_list (pv 0) pe_int (fun _ _ => rfl)) (pe_ix ix_list (pv 0) pe_int (fun _ _ => rfl))) pe_int) pe_int) (pv 1))))), ?_⟩
    have i0 : atI [V.int a, V.int b] 0 = some (.int a) := atI_nat (j := 0) rfl
    have i1 : atI [V.int a, V.int b] 1 = some (.int b) := atI_nat (j := 1) rfl
    refine ⟨.ref p, rfl, p, _, 0, _, rfl, rfl, SqL.of hp, i0, _, _, rfl, rfl, _, rfl, ite2 (fun e => ?_) (fun e => ?_)⟩
    · -- pot[0], digit = divmod(pot[0], many)
      refine ⟨.ref p, rfl, p, _, 0, _, rfl, rfl, SqL.of hp, i0, .int m, rfl, a, m, rfl, no_pylong m0 m1, fun T nT => ?_⟩
      have nTp : p ≠ T := ne_of_none hp nT
      have hp1 : (upd H T (.tup [.int (a / m), .int (a % m)])) p = some (.lst [.int a, .int b]) := by rw [upd_ne nTp]; exact hp
      refine ⟨T, [.int (a / m), .int (a % m)], rfl, .inl (.inl upd_same), rfl, .int (a / m), [.int (a % m)], rfl, ?_⟩
      refine ⟨.ref p, rfl, p, _, 0, 0, rfl, rfl, hp1, rfl, ?_⟩
      refine ⟨.int (a % m), [], rfl, rfl, .int (a % m), rfl, ?_⟩
      refine q (a % m) _ ((Kp.new nT).trans Kp.here) ⟨a / m, b, upd_same, Int.ediv_nonneg ha (by omega), hb, hb2⟩ (Int.emod_nonneg _ (by omega)) (Int.emod_lt_of_pos _ m0)
    · refine ⟨.ref p, rfl, p, _, 1, _, rfl, rfl, SqL.of hp, i1, b, 48271, rfl, rfl, .inr ⟨by decide, by decide⟩, _, _, rfl, rfl, _, _, rfl, rfl, (by show (0 : Int) < 2147483647; decide), ?_⟩
      refine ⟨.ref p, rfl, p, _, 1, 1, rfl, rfl, hp, rfl, ?_⟩
      obtain ⟨c, hc⟩ : ∃ c, c = (b * 48271 + 20011) % 2147483647 := ⟨_, rfl⟩
      have c0 : 0 ≤ c := by rw [hc]; exact Int.emod_nonneg _ (by decide)
      have c1 : c < 2147483647 := by rw [hc]; exact Int.emod_lt_of_pos _ (by decide)
      have j1 : atI [V.int a, V.int c] 1 = some (.int c) := atI_nat (j := 1) rfl
      have hp2 : (upd H p (.lst ([V.int a, V.int b].set 1 (.int ((b * 48271 + 20011) % 2147483647))))) p = some (.lst [.int a, .int c]) := by
        rw [upd_same, ← hc]; rfl
      refine ⟨.ref p, rfl, p, _, 1, _, rfl, rfl, SqL.of hp2, j1, .ref p, rfl, p, _, 1, _, rfl, rfl, SqL.of hp2, j1, c, c, rfl, rfl, .inl ⟨by omega, by omega⟩, ?_⟩
      refine ⟨_, _, rfl, rfl, (by show (0 : Int) < 2147483629; decide), _, _, rfl, rfl, ⟨by decide, by decide⟩, .int m, rfl, _, m, rfl, rfl, m0, ?_⟩
      exact q _ _ Kp.here ⟨a, c, hp2, ha, c0, by omega⟩ (Int.emod_nonneg _ (by omega)) (Int.emod_lt_of_pos _ m0)
/-! ### pot -/
def spPot (K : PySem.W.Frag) : Sp := fun vs H Q _ => ∃ (a : Addr) (ns : List Int) (k : Int), vs = [.ref a, .int k] ∧ SqL K H a (ns.map V.int) ∧ 0 ≤ k ∧ k < 100 ∧
  ∀ H' p, Same H H' → H p = none → PotAt H' p → Q (.ref p) H'
theorem ok_pot {f : Addr} {fd : FuncData} {k : Nat} (F : Fun K "_law_pot" "_law_pot" sPot f fd) (ml : mg "len" = none) (mm : mg "max" = none) (ma : mg "abs" = none) :
    FnOk P w K mg base CX0 (k + 1) f fd ["_law_script", "_law_k"] (spPot K) := by
  refine F.ok scPot (fun vs H Q E h => ?_) (fun cdv A outer s H vs Q E hr h => ?_)
  · obtain ⟨a, ns, k, rfl, _⟩ := h
    rfl
  · obtain ⟨a, ns, k, rfl, hS, k0, k1, q⟩ := h
    refine ⟨_, pss_cons (ps_set (i := 2) scPot.nd rfl (.inl rfl) (pe_ifExp (pt_cmpR op_lt (pv 1) (pe_callB call_len_seq (by rfl) ml PySem.boot_len (pa_cons (pv 0) pa_nil)) (nomark _)) (pe_ix ix_list (pv 0) (pv 1) (fun _ _ => rfl)) pe_int))
      (pss_one (ps_ret (pe_lst (pa_cons (pe_callB (call_max2 rfl) (by rfl) mm (by decide +kernel) (pa_cons pe_int (pa_cons (pe_op op_sub (pe_callB call_abs (by rfl) ma (by decide +kernel) (pa_cons (pv 2) pa_nil)) (pe_op op_pow pe_int pe_int)) pa_nil)))
        (pa_cons (pe_op op_add (pe_op op_add (pe_op op_mod (pe_callB call_abs (by rfl) ma (by decide +kernel) (pa_cons (pv 2) pa_nil)) pe_int) (pe_op op_mul pe_int (pv 1))) pe_int) pa_nil))))), ?_⟩
    have done : ∀ n : Int, ∀ σ, σ = [some (V.ref a), some (.int k), some (.int n)] → True := fun _ _ _ => trivial
    refine ⟨.int k, rfl, .ref a, rfl, a, _, rfl, .inl hS, k, _, rfl, rfl, _, rfl, ite2 (fun e => ?_) (fun e => ?_)⟩
    · have e' : k < ((ns.map V.int).length : Int) := of_decide_eq_true e
      rw [List.length_map] at e'
      obtain ⟨j, rfl⟩ : ∃ j : Nat, k = (j : Int) := ⟨k.toNat, by omega⟩
      have hj : j < ns.length := by omega
      have g : (ns.map V.int)[j]? = some (.int ns[j]) := by
        rw [List.getElem?_map, List.getElem?_eq_getElem hj]; rfl
      refine ⟨.ref a, rfl, .int j, rfl, a, _, j, _, rfl, rfl, hS, atI_nat g, ?_⟩
      refine ⟨.int ns[j], rfl, _, rfl, 10, 18, rfl, rfl, ⟨by decide, by decide, by decide⟩, _, _, rfl, rfl, _, _, rfl, ?_⟩
      refine ⟨.int ns[j], rfl, _, rfl, _, _, rfl, rfl, (by show (0 : Int) < 2147483587; decide), .int j, rfl, 131, _, rfl, rfl, .inl ⟨by decide, by decide⟩, _, _, rfl, rfl, _, _, rfl, rfl, ?_⟩
      refine ⟨by show 2 ≤ sizeLine; decide, fun p np => ?_⟩
      refine q _ p (same_new np) np ⟨_, _, upd_same, ?_, ?_, ?_⟩
      · show (0 : Int) ≤ if _ > (0 : Int) then _ else 0
        split <;> omega
      · have := Int.emod_nonneg (if ns[j] < 0 then -ns[j] else ns[j]) (show (2147483587 : Int) ≠ 0 by decide)
        omega
      · have := Int.emod_lt_of_pos (if ns[j] < 0 then -ns[j] else ns[j]) (show (0 : Int) < 2147483587 by decide)
        omega
    · refine ⟨.int 0, rfl, _, rfl, 10, 18, rfl, rfl, ⟨by decide, by decide, by decide⟩, _, _, rfl, rfl, _, _, rfl, ?_⟩
      refine ⟨.int 0, rfl, _, rfl, _, _, rfl, rfl, (by show (0 : Int) < 2147483587; decide), .int k, rfl, 131, _, rfl, rfl, .inl ⟨by decide, by decide⟩, _, _, rfl, rfl, _, _, rfl, rfl, ?_⟩
      refine ⟨by show 2 ≤ sizeLine; decide, fun p np => ?_⟩
      refine q _ p (same_new np) np ⟨_, _, upd_same, ?_, ?_, ?_⟩
      · decide
      · show (0 : Int) ≤ 0 + 131 * k + 7
        omega
      · show (0 : Int) + 131 * k + 7 < _
        omega
end
end Nl
end
section
set_option maxHeartbeats 2000000
namespace Nl
open PySem PySem.Spec PyProof.Rows L2 Nt
theorem Sm.strOk {n : Nat} {z : Str} (h : Sm n z) : PyData.strOk z = true := by
  unfold PyData.strOk
  rw [Array.all_eq_true']
  intro c hc
  have := h.2 c (Array.mem_toList_iff.mpr hc)
  exact decide_eq_true (by omega)
theorem dp_strs {K : PySem.W.Frag} {H : Hp} : ∀ l : List Str, DpAll K H (l.map V.str) (l.map PyData.str)
  | [] => .nil
  | z :: l => .cons (.str z) (dp_strs l)
theorem lay_strs : ∀ {l : List Str}, (∀ z ∈ l, Sm 25 z) → PyData.canLayAll0 (l.map PyData.str) = true ∧ PyData.depthAll (l.map PyData.str) = 0
  | [], _ => ⟨rfl, rfl⟩
  | z :: l, h => by
    obtain ⟨h1, h2⟩ := lay_strs (l := l) fun y hy => h y (List.mem_cons_of_mem _ hy)
    constructor
    · show (PyData.canLay0 (.str z) && PyData.canLayAll0 (l.map PyData.str)) = true
      rw [h1, show PyData.canLay0 (.str z) = PyData.strOk z from by simp [PyData.canLay0], (h z List.mem_cons_self).strOk]; rfl
    · show max (PyData.depth (.str z)) (PyData.depthAll (l.map PyData.str)) = 0
      rw [h2]; simp [PyData.depth]
theorem shaped_strs {l : List Str} (h : ∀ z ∈ l, Sm 25 z) : SeqAt.shaped (.list (l.map PyData.str)) = true := by
  obtain ⟨h1, h2⟩ := lay_strs h
  unfold SeqAt.shaped
  rw [show PyData.canLay0 (.list (l.map PyData.str)) = PyData.canLayAll0 (l.map PyData.str) by simp [PyData.canLay0], h1, show PyData.depth (.list (l.map PyData.str)) = PyData.depthAll (l.map PyData.str) + 1 by simp [PyData.depth], h2]
  decide
theorem ne_nil {K : PySem.W.Frag} {H : Hp} {a e : Addr} {l : List Str} {Q : V → Hp → Prop} (ha : H a = some (.lst (l.map V.str))) (he : H e = some (.lst [])) (h : ∀ z ∈ l, Sm 25 z) (q : Q (.bl (!l.isEmpty)) H) : rNeD K (.ref a) (.ref e) H Q := by
  refine ⟨_, _, .lst (SqL.of ha) (dp_strs l), .lst (SqL.of he) .nil, shaped_strs h, by simp [SeqAt.shaped, PyData.canLay0, PyData.canLayAll0, PyData.depth, PyData.depthAll], ?_⟩
  have : PyData.eqv (.list (l.map PyData.str)) (.list []) = l.isEmpty := by
    cases l <;> simp [PyData.eqv, PyData.eqvAll]
  rw [this]
  exact q
theorem six {d : Int} {n : Nat} (h0 : 0 ≤ d) (h1 : d < n) : seqIndex? d n = some d.toNat := by
  unfold seqIndex?
  have hn : ¬ d < 0 := by omega
  simp [hn, h0, h1]
theorem erase_perm {α : Type} {l : List α} {k : Nat} {y : α} (h : l[k]? = some y) : (y :: l.eraseIdx k).Perm l := by
  induction l generalizing k with
  | nil => simp at h
  | cons x l ih =>
    cases k with
    | zero =>
      have : x = y := by simpa using h
      subst this
      exact .refl _
    | succ k =>
      have h' : l[k]? = some y := by simpa using h
      exact (List.Perm.swap x y _).trans ((ih h').cons x)
theorem erase_map {α β : Type} (f : α → β) : ∀ (l : List α) (k : Nat), (l.map f).eraseIdx k = (l.eraseIdx k).map f
  | [], _ => rfl
  | _ :: _, 0 => rfl
  | x :: l, k + 1 => by
    show f x :: (l.map f).eraseIdx k = f x :: (l.eraseIdx k).map f
    rw [erase_map f l k]
theorem sixIn {l : List V} {d : Int} (h0 : 0 ≤ d) (h1 : d < l.length) : ∃ y, l[d.toNat]? = some y ∧ y ∈ l := by
  have hj : d.toNat < l.length := by omega
  exact ⟨l[d.toNat], List.getElem?_eq_getElem hj, List.getElem_mem hj⟩
end Nl
end
section
set_option maxHeartbeats 2000000
namespace Nl
open PySem PySem.Spec PyProof.Rows L2 Nt
def lcScope (e : Expr) : Scope := match e with
  | .ListComp _ _ sc _ => sc
  | _ => { kind := .function, names := [], isGenerator := false, isCoroutine := false }
def asgV (s : Stmt) : Expr := match s with
  | .Assign _ v _ => v
  | .For _ _ (.Assign _ v _ :: _) _ _ => v
  | .Return (some v) _ => v
  | _ => .Name "x" ⟨0, 0, 0, 0⟩
def bodyAt (s : Stmt) (i : Nat) : Stmt := (defBody s).getD i (.Pass ⟨0, 0, 0, 0⟩)
/-- [E for pair in pipes if pair[c] == name] -/
def tPick (K : PySem.W.Frag) (jp jv jn : Nat) (c : Int) (te : TE) : TE := tLockE (tLc (iKeys (tVar jp)) (gName jv) (tTest (tOp rEq (tOp (rIxT K) (tVar jv) (tC (.int c))) (tVar jn))) te [jv])
theorem pick_ok {K : PySem.W.Frag} {Pp : Pi} {a : Addr} {H : Hp} {σ : L2.St} {te : TE} {jp jv jn : Nat} {c : Int} {z : Str} {Q : V → Hp → Prop} (sel : (Str × Str) × Int → Str) (val : (Str × Str) × Int → V)
    (hsel : ∀ p : (Str × Str) × Int, atI [V.str p.1.1, V.str p.1.2] c = some (.str (sel p))) (lp : Pp.length ≤ 200) (ha : H a = some (.dT (pt Pp))) (hjp : σ[jp]? = some (some (.ref a)))
    (hv : ∀ q : Addr, ((wipe σ [jv]).set jv (some (.ref q)))[jv]? = some (some (V.ref q))) (hn : ∀ q : Addr, ((wipe σ [jv]).set jv (some (.ref q)))[jn]? = some (some (V.str z)))
    (hw : ∀ q : Addr, wipe ((wipe σ [jv]).set jv (some (.ref q))) [jv] = wipe σ [jv])
    (ht : ∀ (p : (Str × Str) × Int) (q : Addr) (od : Obj) (H2 : Hp) (R : V → Hp → Prop), p ∈ Pp → Same (upd H a (.frz od (.dT (pt Pp)))) H2 → H2 q = some (.tup [.str p.1.1, .str p.1.2]) → R (val p) H2 → te ((wipe σ [jv]).set jv (some (.ref q))) H2 R)
    (q : ∀ D H', Same H H' → H D = none → H' D = some (.lst ((Pp.filter fun p => decide (sel p = z)).map val)) → Q (.ref D) H') : tPick K jp jv jn c te σ H Q := by
  refine ⟨a, _, ha, trivial, fun od => ?_⟩
  refine ⟨.ref a, hjp, a, od, rfl, .inr ⟨_, upd_same, fun D nD => ?_⟩⟩
  have hD0 : D ≠ a := fun e => by subst e; rw [upd_same] at nD; cases nD
  have nDH : H D = none := by rw [upd_ne hD0] at nD; exact nD
  refine lc_it (n := (pt Pp).length) walk_keysT (fun i H1 => H1 D = some (.lst (((Pp.take i).filter fun p => decide (sel p = z)).map val)) ∧ Same (upd H a (.frz od (.dT (pt Pp)))) H1) ⟨upd_same, same_new nD⟩ (fun i H1 _ h => h.2 a _ upd_same) ?_ ?_
  · rintro i x H1 H2 hi ⟨hD, sm⟩ ⟨rfl, kk, v, qq, hkv, rfl, hq⟩
    obtain ⟨p, hp, rfl, rfl⟩ := pt_at hkv
    have hm : p ∈ Pp := List.mem_of_getElem? hp
    refine ⟨hw qq, .ref qq, hv qq, qq, _, c, .str (sel p), rfl, rfl, SqT.of hq, hsel p, .str z, hn qq, rfl, _, rfl, ?_⟩
    rw [decStr]
    refine ite2 (fun e => ?_) (fun e => ?_)
    · refine ht p qq od H2 _ hm sm hq ⟨_, hD, ?_, ?_, ?_⟩
      · rw [List.length_map]
        refine small1000 (Nat.le_trans (List.length_filter_le _ _) ?_)
        rw [List.length_take]; omega
      · rw [upd_same, List.take_add_one, hp, List.filter_append, List.map_append]
        show _ = some (HO.lst (_ ++ List.map _ (List.filter _ [p])))
        rw [List.filter_cons, if_pos e]
        rfl
      · exact fun b o eb => by
          have nb : b ≠ D := ne_of_none eb nD
          rw [upd_ne nb]; exact sm b o eb
    · refine ⟨?_, sm⟩
      rw [hD, List.take_add_one, hp, List.filter_append, List.map_append]
      show _ = some (HO.lst (_ ++ List.map _ (List.filter _ [p])))
      rw [List.filter_cons, if_neg e]
      simp
  · rintro H1 ⟨hD, sm⟩
    obtain ⟨l1, l2⟩ := same_lock ha sm
    refine ⟨l1, q D _ l2 nDH ?_⟩
    rw [upd_ne hD0, hD, List.take_of_length_le (by unfold pt; rw [List.length_map]; exact Nat.le_refl _)]
/-- the width of a pair -/
theorem width_at {Pp : Pi} {a q : Addr} {od : Obj} {H H2 : Hp} {σ : L2.St} {jp jv : Nat} {p : (Str × Str) × Int} {R : V → Hp → Prop} (nd : (Pp.map Prod.fst).Nodup) (hm : p ∈ Pp) (sm : Same (upd H a (.frz od (.dT (pt Pp)))) H2) (hq : H2 q = some (.tup [.str p.1.1, .str p.1.2]))
    (hjp : σ[jp]? = some (some (.ref a))) (hv : σ[jv]? = some (some (.ref q))) (r : R (.int p.2) H2) : tDGet (tVar jp) (tVar jv) σ H2 R :=
  ⟨.ref a, hjp, .ref q, hv, a, .int p.2, rfl, .inr ⟨_, Rl.pk p.1, q, .inr ⟨od, sm a _ upd_same⟩, rfl, hq, by rw [valV_pt, getP_of_mem nd (show (p.1, p.2) ∈ Pp from hm)]; rfl⟩, r⟩
theorem at0 (p : (Str × Str) × Int) : atI [V.str p.1.1, V.str p.1.2] 0 = some (.str p.1.1) := atI_nat (j := 0) rfl
theorem at1 (p : (Str × Str) × Int) : atI [V.str p.1.1, V.str p.1.2] 1 = some (.str p.1.2) := atI_nat (j := 1) rfl
theorem get_bk {B : Br} {a : Addr} {H : Hp} {σ : L2.St} {jb jn : Nat} {z : Str} {c : Int} {R : V → Hp → Prop} (hb : Rd H a (.dK (bk B))) (g : getB B z = some c) (hjb : σ[jb]? = some (some (.ref a))) (hn : σ[jn]? = some (some (.str z))) (r : R (.int c) H) : tDGet (tVar jb) (tVar jn) σ H R :=
  ⟨.ref a, hjb, .str z, hn, a, .int c, rfl, .inl ⟨_, Sum.inr z, hb, rfl, by rw [valV_bk, g]; rfl⟩, r⟩
end Nl
end
section
set_option maxHeartbeats 2000000
namespace Nl
open PySem PySem.Spec PyProof.Rows L2 Nt
section
variable {P : Program} {w : World} {K : PySem.W.Frag} {mg : Str → Option Value} {base : Heap}
theorem scLOut : FnScope ["_law_pipes", "_law_name_here", "_law_pair"] ["_law_pipes", "_law_name_here"] (defScope sLOut) := ⟨rfl, rfl, rfl, by decide +kernel, rfl, by decide +kernel, by decide +kernel⟩
def spLOut : Sp := fun vs H Q _ => ∃ (b : Addr) (Pp : Pi) (z : Str), vs = [.ref b, .str z] ∧ H b = some (.dT (pt Pp)) ∧ (Pp.map Prod.fst).Nodup ∧ Pp.length ≤ 200 ∧ ∀ H', Same H H' → Q (.int (outW Pp z)) H'
theorem ok_lOut {f : Addr} {fd : FuncData} {k : Nat} (F : Fun K "_law_out" "_law_out" sLOut f fd) (ms : mg "sum" = none) : FnOk P w K mg base CX0 (k + 1) f fd ["_law_pipes", "_law_name_here"] spLOut := by
  refine F.ok scLOut (fun vs H Q E h => ?_) (fun cdv A outer s H vs Q E hr h => ?_)
  · obtain ⟨b, Pp, z, rfl, _⟩ := h
    rfl
  · obtain ⟨b, Pp, z, rfl, hB, np, lp, q⟩ := h
    have hu := hu_of hr
    refine ⟨_, pss_one (ps_ret (pe_callB (cr_sum rfl) (by rfl) ms (by decide +kernel) (pa_cons (pe_lock (pe_lc (own := [("_law_pair", 2)]) (g := gName 2)
            (tt := tTest (tOp rEq (tOp (rIxT K) (tVar 2) (tC (.int 0))) (tVar 1))) (te := tDGet (tVar 0) (tVar 2)) rfl scLOut.nd (pi_keys (pv 0))
            (blkOk_by (N := ["_law_pipes", "_law_name_here", "_law_pair"]) (sc := defScope sLOut) (by decide +kernel)) (fun _ _ _ _ _ => pg_name (i := 2) scLOut.nd rfl (Or.inl rfl))
            (fun _ _ _ _ _ => pts_one (pt_cmpR op_eq (pe_ix ix_tup (pv 2) pe_int (fun _ _ => rfl)) (pv 1) (nomark _))) (fun _ _ _ _ _ => pe_dget hu (pv 0) (pv 2) (fun _ _ => rfl)))) pa_nil))), ?_⟩
    refine pick_ok (K := K) (jp := 0) (jv := 2) (jn := 1) (c := 0) (z := z) (fun p => p.1.1) (fun p => .int p.2) at0 lp hB rfl (fun _ => rfl) (fun _ => rfl) (fun _ => rfl) (fun p q od H2 R hm sm hq r => width_at np hm sm hq rfl rfl r) fun D3 H3 s3 nD3 hD3 => ?_
    refine ⟨D3, (Pp.filter fun p => decide (p.1.1 = z)).map (·.2), rfl, SqL.of (by rw [hD3, List.map_map]; rfl), ?_⟩
    exact q H3 s3
theorem scLIn : FnScope ["_law_pipes", "_law_name_here", "_law_pair"] ["_law_pipes", "_law_name_here"] (defScope sLIn) := ⟨rfl, rfl, rfl, by decide +kernel, rfl, by decide +kernel, by decide +kernel⟩
def spLIn : Sp := fun vs H Q _ => ∃ (b : Addr) (Pp : Pi) (z : Str), vs = [.ref b, .str z] ∧ H b = some (.dT (pt Pp)) ∧ (Pp.map Prod.fst).Nodup ∧ Pp.length ≤ 200 ∧ ∀ H', Same H H' → Q (.int (inW Pp z)) H'
theorem ok_lIn {f : Addr} {fd : FuncData} {k : Nat} (F : Fun K "_law_in" "_law_in" sLIn f fd) (ms : mg "sum" = none) : FnOk P w K mg base CX0 (k + 1) f fd ["_law_pipes", "_law_name_here"] spLIn := by
  refine F.ok scLIn (fun vs H Q E h => ?_) (fun cdv A outer s H vs Q E hr h => ?_)
  · obtain ⟨b, Pp, z, rfl, _⟩ := h
    rfl
  · obtain ⟨b, Pp, z, rfl, hB, np, lp, q⟩ := h
    have hu := hu_of hr
    refine ⟨_, pss_one (ps_ret (pe_callB (cr_sum rfl) (by rfl) ms (by decide +kernel) (pa_cons (pe_lock (pe_lc (own := [("_law_pair", 2)]) (g := gName 2)
            (tt := tTest (tOp rEq (tOp (rIxT K) (tVar 2) (tC (.int 1))) (tVar 1))) (te := tDGet (tVar 0) (tVar 2)) rfl scLIn.nd (pi_keys (pv 0))
            (blkOk_by (N := ["_law_pipes", "_law_name_here", "_law_pair"]) (sc := defScope sLIn) (by decide +kernel)) (fun _ _ _ _ _ => pg_name (i := 2) scLIn.nd rfl (Or.inl rfl))
            (fun _ _ _ _ _ => pts_one (pt_cmpR op_eq (pe_ix ix_tup (pv 2) pe_int (fun _ _ => rfl)) (pv 1) (nomark _))) (fun _ _ _ _ _ => pe_dget hu (pv 0) (pv 2) (fun _ _ => rfl)))) pa_nil))), ?_⟩
    refine pick_ok (K := K) (jp := 0) (jv := 2) (jn := 1) (c := 1) (z := z) (fun p => p.1.2) (fun p => .int p.2) at1 lp hB rfl (fun _ => rfl) (fun _ => rfl) (fun _ => rfl) (fun p q od H2 R hm sm hq r => width_at np hm sm hq rfl rfl r) fun D3 H3 s3 nD3 hD3 => ?_
    refine ⟨D3, (Pp.filter fun p => decide (p.1.2 = z)).map (·.2), rfl, SqL.of (by rw [hD3, List.map_map]; rfl), ?_⟩
    exact q H3 s3
end
end Nl
end
section
set_option maxHeartbeats 2000000
namespace Nl
open PySem PySem.Spec PyProof.Rows L2 Nt
theorem leavesN_succ (P : Pi) : ∀ (n : Nat) (L : List Str), leavesN P (n + 1) L = leaves P (leavesN P n L)
  | 0, _ => rfl
  | n + 1, L => by
    show leavesN P (n + 1) (leaves P L) = leaves P (leavesN P n (leaves P L))
    exact leavesN_succ P n _
theorem leavesN_nodup (P : Pi) : ∀ (n : Nat) (L : List Str), L.Nodup → (leavesN P n L).Nodup
  | 0, _, h => h
  | n + 1, L, h => leavesN_nodup P n _ (h.sublist (List.filter_sublist))
theorem leavesN_len (P : Pi) (n : Nat) (L : List Str) (h : L.Nodup) : (leavesN P n L).length ≤ L.length := len_le_of_sub (leavesN_nodup P n L h) (leavesN_sub P n L)
def leafB (P : Pi) (L : List Str) (x : Str) : Bool := (P.filter fun p => decide (p.1.1 = x)).all fun p => decide (p.1.2 ∈ L)
/-- [x for x in xs if ..], xs a list of texts -/
theorem keep_lc {K : PySem.W.Frag} {l : List Str} {b : Str → Bool} {e D : Addr} {H1 : Hp} {σ : L2.St} {tt : TT} {j : Nat} {Qd : Hp → Prop} (ln : l.length ≤ 200) (he : H1 e = some (.lst (l.map V.str))) (nD : H1 D = none)
    (hj : ∀ z : Str, ((wipe σ [j]).set j (some (.str z)))[j]? = some (some (V.str z))) (hw : ∀ z : Str, wipe ((wipe σ [j]).set j (some (.str z))) [j] = wipe σ [j])
    (ht : ∀ (z : Str) (H2 : Hp) (R : Bool → Hp → Prop), z ∈ l → Same H1 H2 → (∀ H3, Same H2 H3 → R (b z) H3) → tt ((wipe σ [j]).set j (some (.str z))) H2 R)
    (hd : ∀ H2, H2 D = some (.lst ((l.filter b).map V.str)) → Same H1 H2 → Qd H2) :
    ∃ W : Nat → Nat → Hp → Prop, (∃ m, W 0 m (upd H1 D (.lst []))) ∧ ∀ i m H, W i m H →
      ((Itl K e).stop i H ∧ Qd H) ∨ ((Itl K e).go i H ∧ ∃ Nx : Hp → Prop, (∀ H', Nx H' → ∃ m', m' < m ∧ W (i + 1) m' H') ∧
        ∀ x H', (Itl K e).yld i H x H' → gName j x (wipe σ [j]) H' fun σ2 H2 => wipe σ2 [j] = wipe σ [j] ∧ tt σ2 H2 fun b H3 => if b = true then tVar j σ2 H3 fun y H4 => ∃ acc, H4 D = some (.lst acc) ∧ acc.length < sizeLine ∧ Nx (upd H4 D (.lst (acc ++ [y]))) else Nx H3) := by
  refine lc_it (walk_list (K := K) (a := e) (xs := l.map V.str)) (fun i H2 => H2 D = some (.lst (((l.take i).filter b).map V.str)) ∧ Same H1 H2) ⟨upd_same, same_new nD⟩ (fun i H2 _ h => SqL.of (h.2 e _ he)) ?_ ?_
  · rintro i x H2 H2' hi ⟨hD, sm⟩ ⟨rfl, hx⟩
    rw [List.getElem?_map] at hx
    cases hy : l[i]? with
    | none => rw [hy] at hx; cases hx
    | some z =>
      rw [hy] at hx
      have hx' : V.str z = x := Option.some.inj hx
      subst hx'
      have tk : l.take (i + 1) = l.take i ++ [z] := by rw [List.take_add_one, hy]; rfl
      refine ⟨hw z, ht z H2' _ (List.mem_of_getElem? hy) sm fun H3 s3 => ite2 (fun c => ?_) (fun c => ?_)⟩
      · refine ⟨.str z, hj z, _, s3 D _ hD, ?_, ?_, ?_⟩
        · rw [List.length_map]
          refine small1000 (Nat.le_trans (List.length_filter_le _ _) ?_)
          rw [List.length_take]; omega
        · rw [upd_same, tk, List.filter_append, List.map_append]
          show _ = some (HO.lst (_ ++ List.map _ (List.filter _ [z])))
          rw [List.filter_cons, if_pos c]; rfl
        · exact fun c o ec => by
            have nb : c ≠ D := ne_of_none ec nD
            rw [upd_ne nb]; exact s3 c o (sm c o ec)
      · refine ⟨?_, sm.trans s3⟩
        rw [s3 D _ hD, tk, List.filter_append]
        show _ = some (HO.lst (List.map _ (_ ++ List.filter _ [z])))
        rw [List.filter_cons, if_neg c]
        simp
  · rintro H2 ⟨hD, sm⟩
    rw [List.length_map, List.take_length] at hD
    exact hd H2 hD sm
end Nl
end
section
set_option maxHeartbeats 2000000
namespace Nl
open PySem PySem.Spec PyProof.Rows L2 Nt
section
variable {P : Program} {w : World} {K : PySem.W.Frag} {mg : Str → Option Value} {base : Heap}
theorem scClosed : FnScope ["_law_brims", "_law_pipes", "_law_left", "_law_turn", "_law_name_here", "_law_pair"] ["_law_brims", "_law_pipes"] (defScope sClosed) := ⟨rfl, rfl, rfl, by decide +kernel, rfl, by decide +kernel, by decide +kernel⟩
def spClosed : Sp := fun vs H Q _ => ∃ (a b : Addr) (B : Br) (Pp : Pi), vs = [.ref a, .ref b] ∧ H a = some (.dK (bk B)) ∧ H b = some (.dT (pt Pp)) ∧ Wf Nm B Pp ∧ Fit B Pp ∧
  ∀ (r : Addr) (L : List Str) (H' : Hp), Same H H' → H r = none → H' r = some (.lst (L.map V.str)) → L.Nodup → (∀ x, x ∈ L ↔ x ∈ nms B ∧ ¬ Opn B Pp x) → Q (.ref r) H'
theorem ok_closed {f fO : Addr} {fd fdO : FuncData} (F : Fun K "_law_closed" "_law_closed" sClosed f fd) (FO : Fun K "_law_out" "_law_out" sLOut fO fdO) (GO : FnOk P w K mg base CX0 1 fO fdO ["_law_pipes", "_law_name_here"] spLOut) (bO : Binds K fdO ["_law_pipes", "_law_name_here"] []) (gO : mg "_law_out" = some (.ref fO)) (mso : mg "sorted" = none) (mr : mg "range" = none) (mn : mg "len" = none) (ma : mg "all" = none) : FnOk P w K mg base CX0 2 f fd ["_law_brims", "_law_pipes"] spClosed := by
  refine F.ok scClosed (fun vs H Q E h => ?_) (fun cdv A outer s H vs Q E hr h => ?_)
  · obtain ⟨a, b, B, Pp, rfl, _⟩ := h
    rfl
  · obtain ⟨a, b, B, Pp, rfl, hA, hB, wf, fit, q⟩ := h
    have hu := hu_of hr
    refine ⟨_, pss_cons (ps_set (i := 2) scClosed.nd rfl (by first | exact .inl rfl | exact .inr rfl) (pe_lc (own := [("_law_name_here", 4)]) (g := gName 4)
        (tt := tTest (tOp rEq (tDGet (tVar 0) (tVar 4)) (tCall spLOut [] E0 (tCons (tVar 1) (tCons (tVar 4) tNil))))) (te := tVar 4) rfl scClosed.nd
        (pi_list (pe_callB (call_sortedD rfl) (by rfl) mso (by decide +kernel) (pa_cons (pv 0) pa_nil)))
        (blkOk_by (N := ["_law_brims", "_law_pipes", "_law_left", "_law_turn", "_law_name_here", "_law_pair"]) (sc := defScope sClosed) (by decide +kernel)) (fun _ _ _ _ _ => pg_name (i := 4) scClosed.nd rfl (by first | exact .inl rfl | exact .inr rfl))
        (fun _ _ _ _ _ => pts_one (pt_cmpR op_eq (pe_dget hu (pv 0) (pv 4) (fun _ _ => rfl)) (pe_call GO hr (by rfl) gO FO.kp bO .nil pass0 (pa_cons (pv 1) (pa_cons (pv 4) pa_nil))) (nomark _)))
        (fun _ _ _ _ _ => pv 4)))
      (pss_cons (ps_for PassesOwn.never rfl (pi_range1 (by rfl) mr (pa_cons (pe_callB call_lenD (by rfl) mn PySem.boot_len (pa_cons (pv 0) pa_nil)) pa_nil)) (pg_name (i := 3) scClosed.nd rfl (Or.inl rfl))
        (pss_one (ps_set (i := 2) scClosed.nd rfl (by first | exact .inl rfl | exact .inr rfl) (pe_lc (own := [("_law_name_here", 4)]) (g := gName 4)
          (tt := tB (tCB (rAll K) (tCons (tPick K 1 5 4 0 (tOp (rIn K false) (tOp (rIxT K) (tVar 5) (tC (.int 1))) (tVar 2))) tNil))) (te := tVar 4) rfl scClosed.nd (pi_list (pv 2))
          (blkOk_by (N := ["_law_brims", "_law_pipes", "_law_left", "_law_turn", "_law_name_here", "_law_pair"]) (sc := defScope sClosed) (by decide +kernel)) (fun _ _ _ _ _ => pg_name (i := 4) scClosed.nd rfl (Or.inr rfl))
          (fun _ _ _ _ _ => pts_one (pt_val (pe_callB (cr_all rfl) (by rfl) ma (by decide +kernel) (pa_cons (pe_lock (pe_lc (own := [("_law_pair", 5)]) (g := gName 5)
            (tt := tTest (tOp rEq (tOp (rIxT K) (tVar 5) (tC (.int 0))) (tVar 4))) (te := tOp (rIn K false) (tOp (rIxT K) (tVar 5) (tC (.int 1))) (tVar 2)) rfl scClosed.nd (pi_keys (pv 1))
            (blkOk_by (N := ["_law_brims", "_law_pipes", "_law_left", "_law_turn", "_law_name_here", "_law_pair"]) (sc := { kind := .function, names := [(".0", .local), ("_law_name_here", .cell), ("all", .globalImplicit), ("_law_left", .cell), ("_law_pipes", .cell)], isGenerator := false, isCoroutine := false }) (by decide +kernel))
            (fun _ _ _ _ _ => pg_name (i := 5) scClosed.nd rfl (Or.inl rfl)) (fun _ _ _ _ _ => pts_one (pt_cmpR op_eq (pe_ix ix_tup (pv 5) pe_int (fun _ _ => rfl)) (pv 4) (nomark _)))
            (fun _ _ _ _ _ => pe_cmpR op_in_seq (pe_ix ix_tup (pv 5) pe_int (fun _ _ => rfl)) (pv 2) (by rfl)))) pa_nil))))
          (fun _ _ _ _ _ => pv 4)))))
      (pss_one (ps_ret (pv 2)))), ?_⟩
    have lB : B.length ≤ 12 := wf.lb
    refine ⟨.ref a, rfl, a, bk B, nms B, rfl, .inl hA, ?_, ?_, fun ys e0 pm _ ne0 => ?_⟩
    · unfold bk nms
      rw [List.map_map, List.map_map]; rfl
    · rw [nms_len]; omega
    have s0 : Same H (upd H e0 (.lst (ys.map V.str))) := same_new ne0
    have lY : ys.length = B.length := by rw [pm.length_eq, nms_len]
    refine ⟨e0, rfl, ⟨_, SqL.of upd_same⟩, fun D nD => ?_⟩
    refine keep_lc (K := K) (b := fun z => decide (val0 B z = outW Pp z)) (by omega) upd_same nD (fun _ => rfl) (fun _ => rfl) (fun z H2 R mz sm r => ?_) (fun H2 hD sm => ?_)
    · have sA := s0.trans sm
      obtain ⟨c, gz⟩ := getB_some (pm.mem_iff.mp mz)
      refine get_bk (.inl (sA a _ hA)) gz rfl rfl ?_
      refine ⟨.ref b, rfl, .str z, rfl, b, Pp, z, rfl, sA b _ hB, wf.np, wf.lp, fun H3 s3 => ⟨rfl, _, rfl, ?_⟩⟩
      have := r H3 s3
      rw [show val0 B z = c by unfold val0; rw [gz]; rfl] at this
      have e : decide (V.int c = V.int (outW Pp z)) = decide (c = outW Pp z) := by
        by_cases h : c = outW Pp z
        · rw [h]; simp
        · rw [decide_eq_false h, decide_eq_false (fun z => h (by injection z))]
      rw [← e] at this
      exact this
    have sB := s0.trans sm
    obtain ⟨L0, hL0⟩ : ∃ L0, L0 = ys.filter fun z => decide (val0 B z = outW Pp z) := ⟨_, rfl⟩
    rw [← hL0] at hD
    have nd0 : L0.Nodup := by rw [hL0]; exact (pm.nodup_iff.mpr wf.nb).sublist List.filter_sublist
    have l0 : L0.length ≤ 12 := by
      rw [hL0]
      exact Nat.le_trans (List.length_filter_le _ _) (by omega)
    have mem0 : ∀ x, x ∈ L0 ↔ ∃ b, (x, b) ∈ B ∧ b = outW Pp x := fun x => by
      rw [hL0, List.mem_filter, pm.mem_iff]
      constructor
      · rintro ⟨h1, h2⟩
        obtain ⟨c, g⟩ := getB_some h1
        have h3 : val0 B x = outW Pp x := of_decide_eq_true h2
        unfold val0 at h3
        rw [g] at h3
        exact ⟨c, getB_mem g, h3⟩
      · rintro ⟨c, hc, e⟩
        refine ⟨List.mem_map.mpr ⟨_, hc, rfl⟩, decide_eq_true ?_⟩
        unfold val0
        rw [getB_of_mem wf.nb hc]; exact e
    have nDH : H D = none := s0.free nD
    refine ⟨.ref a, rfl, a, _, rfl, sB a _ hA, _, rfl, by rw [bk_len]; omega, by rw [bk_len]; omega, ?_⟩
    refine for_it walk_range (fun i σ H3 => ∃ (r : Addr) (y3 y4 y5 : Option V), σ = [some (.ref a), some (.ref b), some (.ref r), y3, y4, y5] ∧ H3 r = some (.lst ((leavesN Pp i L0).map V.str)) ∧ H r = none ∧ Same H H3)
      ⟨D, none, none, none, rfl, hD, nDH, sB⟩ (fun _ _ _ _ _ => trivial) ?_ ?_
    · rintro i x σ H3 H3' hi ⟨r, y3, y4, y5, rfl, hr3, nr, s3⟩ ⟨rfl, rfl⟩
      refine ⟨.ref r, rfl, r, rfl, ⟨_, SqL.of hr3⟩, fun D4 nD4 => ?_⟩
      have lL : (leavesN Pp i L0).length ≤ 12 := Nat.le_trans (leavesN_len Pp i L0 nd0) l0
      refine keep_lc (K := K) (b := leafB Pp (leavesN Pp i L0)) (by omega) hr3 nD4 (fun _ => rfl) (fun _ => rfl) (fun z H4 R mz sm4 rr => ?_) (fun H4 hD4 sm4 => ?_)
      · refine pick_ok (K := K) (jp := 1) (jv := 5) (jn := 4) (c := 0) (z := z) (fun p => p.1.1) (fun p => .bl (decide (p.1.2 ∈ leavesN Pp i L0))) at0 wf.lp (sm4 b _ (s3 b _ hB)) rfl (fun _ => rfl) (fun _ => rfl) (fun _ => rfl) (fun p q od H2 R hm sm hq r2 => ?_) fun D5 H5 s5 nD5 hD5 => ?_
        · have hrb : r ≠ b := fun e => by
            subst e
            rw [hB] at nr; cases nr
          refine ⟨.ref q, rfl, q, _, 1, _, rfl, rfl, SqT.of hq, at1 p, .ref r, rfl, r, _, rfl, .inl (SqL.of (sm r _ (by rw [upd_ne hrb]; exact sm4 r _ hr3))), rfl, flat_strs _, ?_⟩
          show R (.bl (inV (.str p.1.2) _)) H2
          rw [inV_strs]
          exact r2
        · refine ⟨D5, (Pp.filter fun p => decide (p.1.1 = z)).map (fun p => decide (p.1.2 ∈ leavesN Pp i L0)), rfl, SqL.of (by rw [hD5, List.map_map]; rfl), _, rfl, ?_⟩
          have := rr H5 s5
          unfold leafB at this
          rw [List.all_map]
          exact this
      · refine ⟨D4, _, _, _, rfl, ?_, s3.free nD4, s3.trans sm4⟩
        rw [leavesN_succ]
        exact hD4
    · rintro σ H3 ⟨r, y3, y4, y5, rfl, hr3, nr, s3⟩
      rw [show ((((bk B).length : Nat) : Int).toNat) = B.length by rw [bk_len]; omega] at hr3
      exact ⟨.ref r, rfl, q r _ H3 s3 nr hr3 (leavesN_nodup _ _ _ nd0) (leavesN_iff wf fit mem0 nd0)⟩
end
end Nl
end
section
set_option maxHeartbeats 1000000
namespace Nl
open PySem PySem.Spec PyProof.Rows L2 Nt
/-! ### a cut between statements -/
def tMid (t : TS) : TS := fun D σ H => ∃ M : L2.St → Hp → Prop, t { D with nx := M } σ H ∧ ∀ σ' H', M σ' H' → D.nx σ' H'
theorem ps_mid {X : Cx} {st : Stmt} {t : TS} (h : PS X st t) : PS X st (tMid t) := by
  refine ⟨fun pins s σ H D I ⟨M, hw, hm⟩ => ?_⟩
  refine thn (h.run pins s σ _ _ I hw) fun f s1 q => ?_
  cases f with
  | next => obtain ⟨σ', H', I2, q⟩ := q; exact ⟨σ', H', I2, hm _ _ q⟩
  | brk => exact q
  | cont => exact q
  | ret v => exact q
/-! ### texts by their signs -/
theorem mk_toList (l : List Nat) : (⟨l.toArray⟩ : Str).cps.toList = l := by simp
theorem add_list (x y : Str) : (x ++ y).cps.toList = x.cps.toList ++ y.cps.toList := by rw [Str.cps_append, Array.toList_append]
theorem sIx_nat {n d : Nat} {k : Int} (h0 : 0 ≤ k) (h1 : k ≤ n) : HT.sIx n d (some k) = k.toNat := by
  unfold HT.sIx
  show (if k < 0 then (k + (n : Int)).toNat else min k.toNat n) = k.toNat
  rw [if_neg (by omega)]
  omega
theorem sIx_none (n d : Nat) : HT.sIx n d none = d := rfl
theorem cut_to {z : Str} {k : Int} (h0 : 0 ≤ k) (h1 : k ≤ z.length) : (cutS z none (some k)).cps.toList = z.cps.toList.take k.toNat := by
  unfold cutS
  rw [mk_toList, sIx_none, sIx_nat h0 h1, List.drop_zero, Nat.sub_zero]
theorem cut_from {z : Str} {k : Int} (h0 : 0 ≤ k) (h1 : k ≤ z.length) : (cutS z (some k) none).cps.toList = z.cps.toList.drop k.toNat := by
  unfold cutS
  rw [mk_toList, sIx_none, sIx_nat h0 h1]
  refine List.take_of_length_le ?_
  rw [List.length_drop, ← len_list]
  exact Nat.le_refl _
theorem cut_all {z : Str} {k : Int} (h0 : 0 ≤ k) (h1 : (z.length : Int) < k) : (cutS z none (some k)).cps.toList = z.cps.toList := by
  unfold cutS
  rw [mk_toList, sIx_none, List.drop_zero, Nat.sub_zero]
  refine List.take_of_length_le ?_
  rw [← len_list]
  show z.length ≤ if k < 0 then (k + (z.length : Int)).toNat else min k.toNat z.length
  rw [if_neg (by omega)]
  omega
theorem cut_mem {z : Str} {lo hi : Option Int} {c : Nat} (h : c ∈ (cutS z lo hi).cps.toList) : c ∈ z.cps.toList := by
  unfold cutS at h
  rw [mk_toList] at h
  exact List.mem_of_mem_drop (List.mem_of_mem_take h)
def Ab (z : Str) : Prop := ∀ c ∈ z.cps.toList, c ∈ abc.cps.toList
theorem Nm.ab {z : Str} (h : Nm z) : Ab z := (Nm.iff.mp h).2
theorem nm_of {z : Str} (a : Ab z) (h1 : 1 ≤ z.cps.toList.length) (h8 : z.cps.toList.length ≤ 8) : Nm z := Nm.iff.mpr ⟨by rw [len_list]; exact ⟨h1, h8⟩, a⟩
theorem Ab.sm {z : Str} (a : Ab z) {n : Nat} (h : z.cps.toList.length ≤ n) : Sm n z := ⟨by rw [len_list]; exact h, fun c hc => abc_small c (a c hc)⟩
theorem Ab.add {x y : Str} (a : Ab x) (b : Ab y) : Ab (x ++ y) := fun c hc => by
  rw [add_list] at hc
  exact (List.mem_append.mp hc).elim (a c) (b c)
theorem Ab.cut {z : Str} (a : Ab z) (lo hi : Option Int) : Ab (cutS z lo hi) := fun c hc => a c (cut_mem hc)
theorem abc_len : abc.length = 26 := by decide +kernel
theorem abc_len2 : abc.cps.toList.length = 26 := by decide +kernel
theorem abc_at {d : Int} (h0 : 0 ≤ d) (h1 : d < 26) : ∃ c, atI abc.cps.toList d = some c ∧ c ∈ abc.cps.toList ∧ abc.cps.toList[d.toNat]? = some c := by
  obtain ⟨j, rfl⟩ : ∃ j : Nat, d = (j : Int) := ⟨d.toNat, by omega⟩
  have hj : j < abc.cps.toList.length := by rw [abc_len2]; omega
  exact ⟨abc.cps.toList[j], atI_nat (List.getElem?_eq_getElem hj), List.getElem_mem hj, List.getElem?_eq_getElem hj⟩
theorem join_nil_list : ∀ ys : List Str, (Txt.join Str.empty ys).cps.toList = (ys.map (fun y => y.cps.toList)).flatten := by
  intro ys
  rw [TL.join_eq]
  induction ys with
  | nil => rfl
  | cons x r ih =>
    cases r with
    | nil => simp [Str.join]
    | cons y r =>
      show (x ++ Str.empty ++ Str.join Str.empty (y :: r)).cps.toList = _
      rw [Str.cps_append, Array.toList_append, ih, Str.cps_append, Array.toList_append]
      simp [Str.empty]
def sg (c : Nat) : Str := ⟨#[c]⟩
theorem join_sg (cs : List Nat) : (Txt.join Str.empty (cs.map sg)).cps.toList = cs := by
  rw [join_nil_list]
  induction cs with
  | nil => rfl
  | cons c cs ih =>
    rw [List.map_cons, List.map_cons, List.flatten_cons, ih]
    rfl
theorem lens_sg (cs : List Nat) : ((cs.map sg).map (·.length)).sum = cs.length := by
  induction cs with
  | nil => rfl
  | cons c cs ih =>
    rw [List.map_cons, List.map_cons, List.sum_cons, ih, List.length_cons]
    show 1 + _ = _
    omega
theorem PotAt.same {H H' : Hp} {p : Addr} (h : PotAt H p) (s : Same H H') : PotAt H' p := by
  obtain ⟨a, b, hp, hab⟩ := h
  exact ⟨a, b, s _ _ hp, hab⟩
/-! ### a name that is not taken yet -/
def cand (z : Str) (k : Nat) : Str := z ++ sg (abc.cps.toList.getD (k / 26) 0) ++ sg (abc.cps.toList.getD (k % 26) 0)
theorem abc_inj : ∀ i j : Nat, i < 26 → j < 26 → abc.cps.toList.getD i 0 = abc.cps.toList.getD j 0 → i = j := by
  have h : ∀ i : Fin 26, ∀ j : Fin 26, abc.cps.toList.getD i.1 0 = abc.cps.toList.getD j.1 0 → i = j := by decide +kernel
  intro i j hi hj e
  have := h ⟨i, hi⟩ ⟨j, hj⟩ e
  exact congrArg Fin.val this
theorem cand_list (z : Str) (k : Nat) : (cand z k).cps.toList = z.cps.toList ++ [abc.cps.toList.getD (k / 26) 0, abc.cps.toList.getD (k % 26) 0] := by
  unfold cand
  rw [add_list, add_list, List.append_assoc]; rfl
theorem cand_inj {z : Str} {i j : Nat} (hi : i < 90) (hj : j < 90) (e : cand z i = cand z j) : i = j := by
  have h := congrArg (fun s : Str => s.cps.toList) e
  simp only [cand_list] at h
  have h2 := List.append_cancel_left h
  have h3 : abc.cps.toList.getD (i / 26) 0 = abc.cps.toList.getD (j / 26) 0 := by
    injection h2
  have h4 : abc.cps.toList.getD (i % 26) 0 = abc.cps.toList.getD (j % 26) 0 := by
    injection h2 with _ h5
    injection h5
  have a := abc_inj (i / 26) (j / 26) (by omega) (by omega) h3
  have b := abc_inj (i % 26) (j % 26) (by omega) (by omega) h4
  omega
theorem cand_nd (z : Str) : ((List.range 90).map (cand z)).Nodup := by
  unfold List.Nodup
  rw [List.pairwise_map]
  exact List.Pairwise.imp_of_mem (fun {a b} ha hb h e => h (cand_inj (List.mem_range.mp ha) (List.mem_range.mp hb) e)) (List.nodup_range (n := 90))
theorem cand_free {z : Str} {L : List Str} (h : L.length < 90) : (((List.range 90).map (cand z)).filter fun x => !decide (x ∈ L)) ≠ [] := by
  intro e
  have := len_le_of_sub (cand_nd z) (m := L) fun x hx => by
    by_cases hm : x ∈ L
    · exact hm
    · have : x ∈ (((List.range 90).map (cand z)).filter fun x => !decide (x ∈ L)) := List.mem_filter.mpr ⟨hx, by rw [decide_eq_false hm]; rfl⟩
      rw [e] at this
      exact absurd this List.not_mem_nil
  rw [List.length_map, List.length_range] at this
  omega
end Nl
end
section
set_option maxHeartbeats 1000000
namespace Nl
open PySem PySem.Spec PyProof.Rows L2 Nt
def wrds : List Str := ["pond", "spill", "main", "ok", "pour", "settled", "rest", "a"]
theorem wrds_nm : ∀ z ∈ wrds, Nm z := by
  have : ∀ z ∈ wrds, nameB z = true := by decide +kernel
  exact this
theorem len2 {x y : Str} {m n : Nat} (hx : x.length ≤ m) (hy : y.length ≤ n) (h : m + n ≤ 1000) : x.length + y.length ≤ sizeLine := line1000 (by omega)
section
variable {P : Program} {w : World} {K : PySem.W.Frag} {mg : Str → Option Value} {base : Heap}
theorem scLName : FnScope ["_law_pot_here", "_law_taken", "_law_letters", "_law_size", "_law_word", "_law_near", "_law_at", "_law_some", "_law_k", "_law_one"] ["_law_pot_here", "_law_taken"] (defScope sLName) := ⟨rfl, rfl, rfl, by decide +kernel, rfl, by decide +kernel, by decide +kernel⟩
def spLName : Sp := fun vs H Q _ => ∃ (p a : Addr) (L : List Str), vs = [.ref p, .ref a] ∧ PotAt H p ∧ H a = some (.lst (L.map V.str)) ∧ L.length ≤ 80 ∧ (∀ z ∈ L, Nm z) ∧
  ∀ (z : Str) (H' : Hp), Nm z → z ∉ L → H' a = some (.lst ((L ++ [z]).map V.str)) → (∀ b o, b ≠ p → b ≠ a → H b = some o → H' b = some o) → PotAt H' p → Q (.str z) H'
theorem ok_lname {f fD : Addr} {fd fdD : FuncData} (F : Fun K "_law_name" "_law_name" sLName f fd) (FD : Fun K "_law_draw" "_law_draw" sDraw fD fdD) (GD : FnOk P w K mg base CX0 1 fD fdD ["_law_pot_here", "_law_many"] spDraw) (bD : Binds K fdD ["_law_pot_here", "_law_many"] [])
    (gD : mg "_law_draw" = some (.ref fD)) (mr : mg "range" = none) (mn : mg "len" = none) : FnOk P w K mg base CX0 2 f fd ["_law_pot_here", "_law_taken"] spLName := by
  refine F.ok scLName (fun vs H Q E h => ?_) (fun cdv A outer s H vs Q E hr h => ?_)
  · obtain ⟨p, a, L, rfl, _⟩ := h
    rfl
  · obtain ⟨p, a, L, rfl, hP, hA, lL, nL, q⟩ := h
    have hap : a ≠ p := fun e => by
      obtain ⟨x, y, hp, _⟩ := hP
      subst e
      rw [hA] at hp
      cases L with
      | nil => cases hp
      | cons z l => simp at hp
    refine ⟨_, pss_cons (ps_set (i := 2) scLName.nd rfl (by first | exact .inl rfl | exact .inr rfl) pe_str)
      (pss_cons (ps_set (i := 3) scLName.nd rfl (by first | exact .inl rfl | exact .inr rfl) (pe_ix ix_list (pe_lst (pa_cons pe_int (pa_cons pe_int (pa_cons pe_int (pa_cons pe_int (pa_cons (pe_op op_add pe_int (pe_call GD hr (by rfl) gD FD.kp bD .nil pass0 (pa_cons (pv 0) (pa_cons pe_int pa_nil)))) pa_nil))))))
        (pe_call GD hr (by rfl) gD FD.kp bD .nil pass0 (pa_cons (pv 0) (pa_cons pe_int pa_nil))) (fun _ _ => rfl)))
      (pss_cons (ps_set (i := 4) scLName.nd rfl (by first | exact .inl rfl | exact .inr rfl) (pe_join pe_str (pe_lc (own := [("_law_k", 8)]) (g := gName 8) (tt := tYes) rfl scLName.nd (pi_range1 (by rfl) mr (pa_cons (pv 3) pa_nil))
        (blkOk_by (N := ["_law_pot_here", "_law_taken", "_law_letters", "_law_size", "_law_word", "_law_near", "_law_at", "_law_some", "_law_k", "_law_one"]) (sc := defScope sLName) (by decide +kernel)) (fun _ _ _ _ _ => pg_name (i := 8) scLName.nd rfl (Or.inl rfl)) (fun _ _ _ _ _ => pts_nil)
        (fun _ _ _ _ _ => pe_ix ix_str (pv 2) (pe_call GD hr (by rfl) gD FD.kp bD .nil pass0 (pa_cons (pv 0) (pa_cons pe_int pa_nil))) (fun _ _ => rfl)))))
      (pss_cons (ps_mid (ps_if (PW.pt (pw_and (pt_cmpR (op_neD hr.units) (pv 1) (pe_lst pa_nil) (nomark _)) (pw_and1 (pt_cmpR op_eq (pe_call GD hr (by rfl) gD FD.kp bD .nil pass0 (pa_cons (pv 0) (pa_cons pe_int pa_nil))) pe_int (nomark _)))))
        (pss_cons (ps_set (i := 5) scLName.nd rfl (by first | exact .inl rfl | exact .inr rfl) (pe_ix ix_list (pv 1) (pe_call GD hr (by rfl) gD FD.kp bD .nil pass0 (pa_cons (pv 0) (pa_cons (pe_callB call_len_seq (by rfl) mn PySem.boot_len (pa_cons (pv 1) pa_nil)) pa_nil))) (fun _ _ => rfl)))
        (pss_cons (ps_set (i := 6) scLName.nd rfl (by first | exact .inl rfl | exact .inr rfl) (pe_call GD hr (by rfl) gD FD.kp bD .nil pass0 (pa_cons (pv 0) (pa_cons (pe_callB call_len_str (by rfl) mn PySem.boot_len (pa_cons (pv 5) pa_nil)) pa_nil))))
        (pss_one (ps_set (i := 4) scLName.nd rfl (by first | exact .inl rfl | exact .inr rfl) (pe_op op_add_str (pe_op op_add_str (pe_slice sl_str (pv 5) po_none (po_some (pv 6))) (pe_slice sl_str (pv 4) po_none (po_some pe_int))) (pe_slice sl_str (pv 5) (po_some (pe_op op_add (pv 6) pe_int)) po_none)))))) pss_nil))
      (pss_cons (ps_mid (ps_if (pt_cmpR op_in_seq (pv 4) (pv 1) (by rfl))
        (pss_cons (ps_setLc (i := 7) (own := [("_law_k", 8)]) (g := gName 8) (tt := tYes) rfl scLName.nd rfl rfl rfl (pi_range1 (by rfl) mr (pa_cons pe_int pa_nil))
          (blkOk_by (N := ["_law_pot_here", "_law_taken", "_law_letters", "_law_size", "_law_word", "_law_near", "_law_at", "_law_some", "_law_k", "_law_one"]) (sc := defScope sLName) (by decide +kernel)) (fun _ _ _ _ _ => pg_name (i := 8) scLName.nd rfl (Or.inl rfl)) (fun _ _ _ _ _ => pts_nil)
          (fun _ _ _ _ _ => pe_op op_add_str (pe_op op_add_str (pe_slice sl_str (pv 4) po_none (po_some pe_int)) (pe_ix ix_str (pv 2) (pe_op op_fdiv (pv 8) pe_int) (fun _ _ => rfl))) (pe_ix ix_str (pv 2) (pe_op op_mod (pv 8) pe_int) (fun _ _ => rfl))))
        (pss_one (ps_set (i := 4) scLName.nd rfl (by first | exact .inl rfl | exact .inr rfl) (pe_ix ix_list (pe_lc (own := [("_law_one", 9)]) (g := gName 9) (tt := tTest (tOp (rIn K true) (tVar 9) (tVar 1))) (te := tVar 9) rfl scLName.nd (pi_list (pv 7))
          (blkOk_by (N := ["_law_pot_here", "_law_taken", "_law_letters", "_law_size", "_law_word", "_law_near", "_law_at", "_law_some", "_law_k", "_law_one"]) (sc := defScope sLName) (by decide +kernel)) (fun _ _ _ _ _ => pg_name (i := 9) scLName.nd rfl (Or.inl rfl))
          (fun _ _ _ _ _ => pts_one (pt_cmpR op_notIn_seq (pv 9) (pv 1) (by rfl))) (fun _ _ _ _ _ => pv 9)) pe_int (fun _ _ => rfl))))) pss_nil))
      (pss_cons (ps_expr (pe_bm PySem.F.plainAttrs_list PySem.F.slot_list_append PySem.F.type_list_append mt_append (pv 1) (pa_cons (pv 4) pa_nil)))
      (pss_one (ps_ret (pv 4)))))))), ?_⟩
    -- size
    refine ⟨.ref p, rfl, p, 8, rfl, hP, by decide, by decide, fun d1 H1 k1 hP1 d10 d11 => ?_⟩
    refine ⟨1, d1, rfl, rfl, line1000 (by show 5 ≤ 1000; decide), fun l nl => ?_⟩
    have hlp : l ≠ p := hP1.ne nl
    refine ⟨.ref p, rfl, p, 5, rfl, hP1.new nl, by decide, by decide, fun d2 H2 k2 hP2 d20 d21 => ?_⟩
    have hsz : ∃ sz : Int, atI [V.int 1, V.int 1, V.int 2, V.int 8, V.int (1 + d1)] d2 = some (.int sz) ∧ 1 ≤ sz ∧ sz ≤ 8 := by
      have : d2 = 0 ∨ d2 = 1 ∨ d2 = 2 ∨ d2 = 3 ∨ d2 = 4 := by omega
      rcases this with rfl | rfl | rfl | rfl | rfl
      · exact ⟨1, atI_nat (j := 0) rfl, by decide, by decide⟩
      · exact ⟨1, atI_nat (j := 1) rfl, by decide, by decide⟩
      · exact ⟨2, atI_nat (j := 2) rfl, by decide, by decide⟩
      · exact ⟨8, atI_nat (j := 3) rfl, by decide, by decide⟩
      · exact ⟨1 + d1, atI_nat (j := 4) rfl, by omega, by omega⟩
    obtain ⟨sz, hat, z1, z8⟩ := hsz
    refine ⟨l, _, d2, .int sz, rfl, rfl, SqL.of (k2 l _ hlp upd_same), hat, ?_⟩
    have kA : Kp p H H2 := k1.trans ((Kp.new nl).trans k2)
    -- word
    refine ⟨⟨_, rfl⟩, .int sz, rfl, sz, rfl, by omega, by omega, fun D nD => ?_⟩
    have hDp := hP2.ne nD
    refine lc_it (n := sz.toNat) walk_range (fun i H3 => ∃ cs : List Nat, H3 D = some (.lst ((cs.map sg).map V.str)) ∧ cs.length = i ∧ (∀ c ∈ cs, c ∈ abc.cps.toList) ∧ Kp p H H3 ∧ PotAt H3 p)
      ⟨[], upd_same, rfl, fun c hc => absurd hc List.not_mem_nil, kA.trans (Kp.new nD), hP2.new nD⟩ (fun _ _ _ _ => trivial) ?_ ?_
    · rintro i x H3 H3' hi ⟨cs, hD, hl, hy, kp, hP3⟩ ⟨rfl, rfl⟩
      refine ⟨rfl, .str abc, rfl, .ref p, rfl, p, 26, rfl, hP3, by decide, by decide, fun d H4 k4 hP4 d0 d1 => ?_⟩
      obtain ⟨c, hc, hm, _⟩ := abc_at d0 d1
      refine ⟨abc, d, c, rfl, rfl, by rw [abc_len]; decide, hc, _, k4 _ _ hDp hD, ?_, cs ++ [c], ?_, ?_, ?_, ?_, ?_⟩
      · rw [List.length_map, List.length_map, hl]; exact small1000 (by omega)
      · rw [upd_same, List.map_append, List.map_append]; rfl
      · rw [List.length_append, hl]; rfl
      · intro y hy'
        rcases List.mem_append.mp hy' with e | e
        · exact hy y e
        · have : y = c := by simpa using e
          subst this; exact hm
      · intro b o nb e
        by_cases hb : b = D
        · subst hb
          have := kA b o nb e
          rw [nD] at this; cases this
        · rw [upd_ne hb]
          exact k4 b o nb (kp b o nb e)
      · exact hP4.put hDp
    rintro H3 ⟨cs, hD, hl, hy, kp, hP3⟩
    refine ⟨_, D, cs.map sg, rfl, rfl, .inl (SqL.of hD), ?_, ?_⟩
    · show ((cs.map sg).map (·.length)).sum + (cs.map sg).length * 0 ≤ _
      rw [lens_sg]
      exact line1000 (by omega)
    obtain ⟨wd, hwd⟩ : ∃ wd, wd = Txt.join Str.empty (cs.map sg) := ⟨_, rfl⟩
    have nw : Nm wd := by
      have e : wd.cps.toList = cs := by rw [hwd, join_sg]
      exact nm_of (fun c hc => hy c (by rw [← e]; exact hc)) (by rw [e, hl]; omega) (by rw [e, hl]; omega)
    show tMid _ _ [some (V.ref p), some (V.ref a), some (V.str abc), some (V.int sz), some (V.str (Txt.join Str.empty (cs.map sg))), none, none, none, none, none] H3
    rw [← hwd]
    -- near
    refine ⟨fun σ' H' => ∃ (wd : Str) (y5 y6 : Option V), σ' = [some (.ref p), some (.ref a), some (.str abc), some (.int sz), some (.str wd), y5, y6, none, none, none] ∧ Nm wd ∧ PotAt H' p ∧ Kp p H H', ?_, ?_⟩
    · refine ⟨.ref a, rfl, Nat.zero_le _, fun e ne => ?_⟩
      have s3 : Same H3 (upd H3 e (.lst [])) := same_new ne
      have hA3 := s3 a _ (kp a _ hap hA)
      have kp' : Kp p H (upd H3 e (.lst [])) := kp.trans (Kp.new ne)
      refine ne_nil hA3 upd_same (fun z hz => (nL z hz).sm.mono (by decide)) ⟨_, rfl, ite2 (fun c => ?_) (fun c => ?_)⟩
      · have hL0 : 0 < L.length := List.length_pos_iff.mpr fun z => by subst z; exact absurd c (by decide)
        refine ⟨.ref p, rfl, p, 4, rfl, hP3.new ne, by decide, by decide, fun d H4 k4 hP4 d0 d1 => ?_⟩
        have hA4 := k4 a _ hap hA3
        refine ⟨rfl, _, rfl, ite2 (fun c => ?_) (fun c => ?_)⟩
        · refine ⟨.ref a, rfl, .ref p, rfl, .ref a, rfl, a, _, rfl, .inl (SqL.of hA4), p, _, rfl, hP4, by rw [List.length_map]; omega, by rw [List.length_map]; omega, fun d5 H5 k5 hP5 d50 d51 => ?_⟩
          rw [List.length_map] at d51
          have hj : d5.toNat < L.length := by omega
          have hy5 : L[d5.toNat]? = some L[d5.toNat] := List.getElem?_eq_getElem hj
          have hm5 : L[d5.toNat] ∈ L := List.getElem_mem hj
          have nn := nL _ hm5
          obtain ⟨nr, hnr⟩ : ∃ nr, nr = L[d5.toNat] := ⟨_, rfl⟩
          rw [← hnr] at hy5 nn
          obtain ⟨⟨n1, n8⟩, nab⟩ := Nm.iff.mp nn
          obtain ⟨⟨w1, w8⟩, wab⟩ := Nm.iff.mp nw
          have hx5 : atI (L.map V.str) d5 = some (.str nr) := by
            have e : d5 = ((d5.toNat : Nat) : Int) := by omega
            rw [e]
            exact atI_nat (by rw [List.getElem?_map, hy5]; rfl)
          refine ⟨a, _, d5, .str nr, rfl, rfl, SqL.of (k5 a _ hap hA4), hx5, ?_⟩
          refine ⟨.ref p, rfl, .str nr, rfl, nr, rfl, line1000 (by omega), p, _, rfl, hP5, by omega, by omega, fun t H6 k6 hP6 t0 t1 => ?_⟩
          have e1 := cut_to (z := nr) (k := t) t0 (by omega)
          have e2 := cut_to (z := wd) (k := 1) (by decide) (by omega)
          have e3 := cut_from (z := nr) (k := t + 1) (by omega) (by omega)
          have g1 := cutS_length nr none (some t)
          have g2 := cutS_length wd none (some 1)
          have g3 := cutS_length nr (some (t + 1)) none
          refine ⟨.str nr, rfl, .int t, rfl, t, rfl, nr, rfl, line1000 (by omega), .str wd, rfl, 1, rfl, wd, rfl, line1000 (by omega), _, _, rfl, rfl, line1000 (by omega), ?_⟩
          refine ⟨.str nr, rfl, .int t, rfl, t, 1, rfl, rfl, t + 1, rfl, nr, rfl, line1000 (by omega), _, _, rfl, rfl, line1000 (by rw [strLen_append]; omega), ?_⟩
          refine ⟨_, _, _, rfl, nm_of (((Ab.cut nab _ _).add (Ab.cut wab _ _)).add (Ab.cut nab _ _)) ?_ ?_, hP6, kp'.trans (k4.trans (k5.trans k6))⟩
          · rw [add_list, add_list, e1, e2, e3, List.length_append, List.length_append, List.length_take, List.length_take, List.length_drop, ← len_list, ← len_list]
            show 1 ≤ min t.toNat nr.length + min 1 wd.length + (nr.length - (t + 1).toNat)
            omega
          · rw [add_list, add_list, e1, e2, e3, List.length_append, List.length_append, List.length_take, List.length_take, List.length_drop, ← len_list, ← len_list]
            show min t.toNat nr.length + min 1 wd.length + (nr.length - (t + 1).toNat) ≤ 8
            omega
        · exact ⟨wd, none, none, rfl, nw, hP4, kp'.trans k4⟩
      · exact iteF ⟨wd, none, none, rfl, nw, hP3.new ne, kp'⟩
    clear nw hwd wd hP3 kp hD
    rintro σ H3 ⟨wd, y5, y6, rfl, nw, hP3, kp⟩
    have hA3 := kp a _ hap hA
    -- not taken
    refine ⟨fun σ' H' => ∃ (wd : Str) (y7 : Option V), σ' = [some (.ref p), some (.ref a), some (.str abc), some (.int sz), some (.str wd), y5, y6, y7, none, none] ∧ Nm wd ∧ wd ∉ L ∧ PotAt H' p ∧ Kp p H H', ?_, ?_⟩
    · refine ⟨.str wd, rfl, .ref a, rfl, a, _, rfl, .inl (SqL.of hA3), rfl, flat_strs _, ?_⟩
      show ∃ k, V.bl (inV (.str wd) (L.map V.str)) = .bl k ∧ _
      rw [inV_strs]
      refine ⟨_, rfl, ite2 (fun c => ?_) (fun c => ?_)⟩
      · obtain ⟨⟨w1, w8⟩, wab⟩ := Nm.iff.mp nw
        refine ⟨90, rfl, by decide, by decide, fun D2 nD2 => ?_⟩
        obtain ⟨pre, hpre⟩ : ∃ pre, pre = cutS wd none (some 6) := ⟨_, rfl⟩
        have pl : pre.length ≤ 6 := by
          rw [hpre, len_list]
          by_cases h6 : (6 : Int) ≤ wd.length
          · rw [cut_to (by decide) h6, List.length_take]
            show min 6 _ ≤ 6
            omega
          · rw [cut_all (by decide) (by omega), ← len_list]; omega
        have pab : Ab pre := by rw [hpre]; exact Ab.cut wab _ _
        refine lc_it (n := 90) walk_range (fun i H4 => H4 D2 = some (.lst (((List.range i).map (cand pre)).map V.str)) ∧ Same H3 H4) ⟨upd_same, same_new nD2⟩ (fun _ _ _ _ => trivial) ?_ ?_
        · rintro i x H4 H4' hi ⟨hD4, sm⟩ ⟨rfl, rfl⟩
          have q0 : (0 : Int) ≤ (0 + (i : Int)) / 26 := by omega
          obtain ⟨c1, hc1, hm1, hg1⟩ := abc_at (d := (0 + (i : Int)) / 26) q0 (by omega)
          obtain ⟨c2, hc2, hm2, hg2⟩ := abc_at (d := (0 + (i : Int)) % 26) (by omega) (by omega)
          refine ⟨rfl, .str wd, rfl, 6, rfl, wd, rfl, line1000 (by omega), .str abc, rfl, .int (0 + (i : Int)), rfl, _, 26, rfl, rfl, ⟨by decide, by decide⟩, abc, _, c1, rfl, rfl, by rw [abc_len]; decide, hc1, _, _, rfl, rfl, ?_,
            .str abc, rfl, .int (0 + (i : Int)), rfl, _, 26, rfl, rfl, (by show (0 : Int) < 26; decide), abc, _, c2, rfl, rfl, by rw [abc_len]; decide, hc2, _, _, rfl, rfl, ?_, _, hD4, ?_, ?_, ?_⟩
          · rw [← hpre]
            show pre.length + 1 ≤ _
            exact line1000 (by omega)
          · rw [← hpre, strLen_append]
            show pre.length + 1 + 1 ≤ _
            exact line1000 (by omega)
          · rw [List.length_map, List.length_map, List.length_range]; exact small1000 (by omega)
          · rw [upd_same, List.range_succ, List.map_append, List.map_append, ← hpre]
            have t1 : ((0 + (i : Int)) / 26).toNat = i / 26 := by omega
            have t2 : ((0 + (i : Int)) % 26).toNat = i % 26 := by omega
            rw [t1] at hg1
            rw [t2] at hg2
            have e : pre ++ (⟨#[c1]⟩ : Str) ++ (⟨#[c2]⟩ : Str) = cand pre i := by
              unfold cand sg
              rw [List.getD_eq_getElem?_getD, List.getD_eq_getElem?_getD, hg1, hg2]; rfl
            rw [e]; rfl
          · exact fun c o ec => by
              have nb : c ≠ D2 := ne_of_none ec nD2
              rw [upd_ne nb]; exact sm c o ec
        rintro H4 ⟨hD4, sm⟩
        refine ⟨.ref D2, rfl, D2, rfl, ⟨_, SqL.of hD4⟩, fun D5 nD5 => ?_⟩
        refine keep_lc (K := K) (b := fun z => !decide (z ∈ L)) (by rw [List.length_map, List.length_range]; decide) hD4 nD5 (fun _ => rfl) (fun _ => rfl) (fun z H5 R mz sm5 r => ?_) (fun H5 hD5 sm5 => ?_)
        · refine ⟨.str z, rfl, .ref a, rfl, a, _, rfl, .inl (SqL.of (sm5 a _ (sm a _ hA3))), rfl, flat_strs _, ?_⟩
          refine ⟨_, rfl, ?_⟩
          show R (!inV (.str z) (L.map V.str)) H5
          rw [inV_strs]
          exact r H5 (Same.refl _)
        · have ne := cand_free (z := pre) (L := L) (by omega)
          cases hf : (((List.range 90).map (cand pre)).filter fun x => !decide (x ∈ L)) with
          | nil => exact absurd hf ne
          | cons wx rest =>
            rw [hf] at hD5
            have mx : wx ∈ (((List.range 90).map (cand pre)).filter fun x => !decide (x ∈ L)) := by rw [hf]; exact List.mem_cons_self
            obtain ⟨m1, m2⟩ := List.mem_filter.mp mx
            have nx : wx ∉ L := fun z => by rw [decide_eq_true z] at m2; cases m2
            obtain ⟨j, hj, ej⟩ := List.mem_map.mp m1
            have hj90 := List.mem_range.mp hj
            have nwx : Nm wx := by
              rw [← ej]
              have cl := cand_list pre j
              refine nm_of ?_ ?_ ?_
              · intro c hc
                rw [cl] at hc
                rcases List.mem_append.mp hc with h | h
                · exact pab c h
                · have gd : ∀ k, k < 26 → abc.cps.toList.getD k 0 ∈ abc.cps.toList := fun k hk => by
                    have hk' : k < abc.cps.toList.length := by rw [abc_len2]; exact hk
                    rw [List.getD_eq_getElem?_getD, List.getElem?_eq_getElem hk']
                    exact List.getElem_mem hk'
                  have h' : c = abc.cps.toList.getD (j / 26) 0 ∨ c = abc.cps.toList.getD (j % 26) 0 := by simpa using h
                  rcases h' with rfl | rfl
                  · exact gd _ (by omega)
                  · exact gd _ (by omega)
              · rw [cl, List.length_append]
                show 1 ≤ _ + 2
                omega
              · rw [cl, List.length_append, ← len_list]
                show _ + 2 ≤ 8
                omega
            refine ⟨D5, _, 0, .str wx, rfl, rfl, SqL.of hD5, atI_nat (j := 0) rfl, ?_⟩
            exact ⟨wx, _, rfl, nwx, nx, (hP3.same sm).same sm5, kp.trans (Kp.of_same (sm.trans sm5))⟩
      · exact ⟨wd, none, rfl, nw, fun z => c (decide_eq_true z), hP3, kp⟩
    clear nw hP3 kp hA3 wd
    rintro σ H3 ⟨wd, y7, rfl, nw, fw, hP3, kp⟩
    have hA3 := kp a _ hap hA
    refine ⟨.ref a, rfl, .inl ⟨rfl, _, SqL.of hA3⟩, .str wd, rfl, a, _, _, rfl, rfl, hA3, by rw [List.length_map]; exact small1000 (by omega), ?_⟩
    refine ⟨.str wd, rfl, q wd _ nw fw ?_ ?_ (hP3.put hap)⟩
    · rw [upd_same, List.map_append]; rfl
    · intro b o nb na e
      rw [upd_ne na]; exact kp b o nb e
end
end Nl
end
section
set_option maxHeartbeats 2000000
namespace Rl
open PySem PySem.W PySem.Calls PyProof.Rows PyProof.V PySem.Spec DT
section
variable {K : Type} [DecidableEq K] {prog : Program} {w : World} {knd : HeapKind prog w K}
theorem meetsPop1 {d b : Addr} {k : K} (hd : (d == sysModules) = false) :
    MeetsIn prog w (Builtin.«dict.pop» ⟨[.ref d, .ref b], []⟩) (fun A R s => ∃ xs p, knd.room A.in1 ∧ knd.is s.heap k b ∧ s.heap.DictOfH knd d xs ∧ xs.length ≤ sizeLine ∧ atKey xs k = some p ∧
      ∀ h' tk, h'.DictOfH knd d (dropH xs k) → Heap.SameBut d s.heap h' → R (.ok (.ret p.2)) { s with heap := h', toks := tk }) :=
  .of_wp fun A R s ⟨xs, p0, hu, hkey, hm, hsz, hat, hsome⟩ => by
    obtain ⟨o, es, ep, ho, hc, hdat, he, his, hn⟩ := id hm
    have hes : es.size = xs.length := size_of_entries he
    have hpart : (keyPart (Value.ref b)).isSome = false := rfl
    unfold Builtin.«dict.pop»
    refine wpAny_bind ?_
    unfold Builtin.Dict.keyAndDefault
    refine wpAny_bind (wpAny_notOrdered_dict hm.typeIs ?_)
    show wpAny _ _ (pure (d, Value.ref b, none)) _ _ s
    refine wpAny_pure ?_
    simp only [hpart, Bool.false_eq_true, if_false]
    refine wpAny_bind (wpAny_dictEntries ho hdat (wpAny_bind (wpAny_pure ?_)))
    cases hem : es.isEmpty with
    | true =>
      have h0 : xs = [] := by
        have z : es.size = 0 := by simpa using hem
        exact List.length_eq_zero_iff.mp (by omega)
      rw [h0] at hat
      cases hat
    | false =>
      simp only [Bool.false_eq_true, if_false]
      refine wpAny_bind (takeH hu hkey hm hsz (fun hno => ?_) fun p e hp hev h' hm' hs' => ?_)
      · rw [hat] at hno; cases hno
      · simp only [Option.isNone_some, Bool.false_eq_true, if_false]
        rw [hat] at hp
        cases hp
        exact wpAny_bind (wpAny_letGo (wpAny_pure ⟨e.val, rfl, by rw [hev]; exact hsome h' _ hm' hs'⟩))
end
end Rl
namespace Rl
open PySem PySem.Spec PyProof.Rows L2 L2.DX
section
variable {X : Cx}
def rPopT1 : V → List V → Hp → VK → Prop := fun x xs H Q => ∃ (a : Addr) (kvs : List (List L2.Key × V)) (k : List L2.Key) (b : Addr) (v : V), x = .ref a ∧ xs = [.ref b] ∧ H a = some (.dT kvs) ∧ H b = some (.tup (k.map kV)) ∧ valV kvs k = some v ∧ Q v (upd H a (.dT (dropK kvs k)))
theorem mt_popT1 (hu : X.A.units + 1 < cLine) : MtR X "dict.pop" rPopT1 := by
  intro pins s σ H x xs v us Q I rx rxs h
  obtain ⟨a, kvs, k, b, v0, rfl, rfl, ha, hb, ev, q1⟩ := h
  cases rx
  obtain ⟨u1, rfl, r1⟩ : ∃ u1, us = [u1] ∧ RelV (.ref b) u1 := by
    cases rxs with
    | cons h t => cases t; exact ⟨_, rfl, h⟩
  cases r1
  obtain ⟨z, hd, xs', rel, dd⟩ := dt_of I.hok ha
  have hz : xs'.length ≤ sizeLine := by rw [← Paired.length rel]; exact z
  have r := rel.val k
  rw [ev] at r
  obtain ⟨p, hp, rv⟩ : ∃ p, atKey xs' k = some p ∧ RelV v0 p.2 := by
    cases e : atKey xs' k with
    | none => rw [e] at r; exact (show False from r).elim
    | some p => rw [e] at r; exact ⟨p, rfl, r⟩
  refine call_meetsIn PySem.F.slot_dict_pop dd.typeIs PySem.F.entry_dict_pop (PySem.F.args_dict_pop_2 _ _) (meetsPop1 (knd := tupleKind (mixKind X.prog X.w)) (k := k) hd)
    ⟨xs', p, tupleKind_room_in1 hu, key_of I.hok hb, dd, hz, hp, fun h' tk dd' hs => ?_⟩
  obtain ⟨o, es, ep, hq, h2, h3, h4, _, h5⟩ := dd'
  have I2 : Inv X pins σ (upd H a (.dT (dropK kvs k))) { s with heap := h', toks := tk } :=
    d_write I (by rw [ha]; exact True.intro) hs ⟨o, hq⟩ ⟨Nat.le_trans (dropK_le kvs k) z, hd, _, (KT_drop k rel).keeps (fun c ys ec => (by rw [upd_ne (ne_of ec ha (fun z => nomatch z))]; exact ec)), o, es, ep, hq, h2, h3, h4, h5⟩
  show EP X pins σ Q p.2 _
  exact ⟨v0, _, I2, rv, q1⟩
end
end Rl
end
section
set_option maxHeartbeats 1000000
namespace Nl
open PySem PySem.Spec PyProof.Rows L2 Nt
theorem sumOf_append (f : (Str × Str) × Int → Bool) (P R : Pi) : sumOf f (P ++ R) = sumOf f P + sumOf f R := by
  unfold sumOf
  rw [List.filter_append, List.map_append, List.sum_append]
theorem sumOf_one (f : (Str × Str) × Int → Bool) (p : (Str × Str) × Int) : sumOf f [p] = if f p = true then p.2 else 0 := by
  unfold sumOf
  by_cases h : f p = true
  · rw [List.filter_cons, if_pos h, if_pos h]; simp
  · rw [List.filter_cons, if_neg h, if_neg h]; rfl
theorem sumOf_split (f g : (Str × Str) × Int → Bool) (P : Pi) : sumOf f P = sumOf f (P.filter g) + sumOf f (P.filter fun p => !g p) := by
  induction P with
  | nil => rfl
  | cons p r ih =>
    have e : ∀ l : Pi, sumOf f (p :: l) = sumOf f [p] + sumOf f l := fun l => sumOf_append f [p] l
    rw [e r, ih]
    by_cases h : g p = true
    · rw [List.filter_cons, if_pos h, List.filter_cons, if_neg (by rw [h]; decide), e (List.filter g r)]
      omega
    · rw [List.filter_cons, if_neg h, List.filter_cons, if_pos (by simp [h]), e (List.filter (fun p => !g p) r)]
      omega
theorem outW_add (P : Pi) (q : Str × Str) (v : Int) (x : Str) : outW (P ++ [(q, v)]) x = outW P x + if q.1 = x then v else 0 := by
  unfold outW
  rw [sumOf_append, sumOf_one]
  by_cases h : q.1 = x
  · rw [if_pos (decide_eq_true h), if_pos h]
  · rw [if_neg (by simp [h]), if_neg h]
theorem inW_add (P : Pi) (q : Str × Str) (v : Int) (x : Str) : inW (P ++ [(q, v)]) x = inW P x + if q.2 = x then v else 0 := by
  unfold inW
  rw [sumOf_append, sumOf_one]
  by_cases h : q.2 = x
  · rw [if_pos (decide_eq_true h), if_pos h]
  · rw [if_neg (by simp [h]), if_neg h]
theorem wf_add {B : Br} {P : Pi} (wf : Wf Nm B P) {x y : Str} {v : Int} (hx : x ∈ nms B) (hy : y ∈ nms B) (ne : x ≠ y) (v1 : 1 ≤ v) (v60 : v ≤ 60) (fr : (x, y) ∉ P.map Prod.fst) (ln : P.length < 200) : Wf Nm B (P ++ [((x, y), v)]) where
  nb := wf.nb
  lb := wf.lb
  rb := wf.rb
  np := by
    rw [List.map_append, List.nodup_append]
    refine ⟨wf.np, by simp, fun a ha b hb e => ?_⟩
    have hb' : b = (x, y) := by simpa using hb
    exact fr (by rw [← hb', ← e]; exact ha)
  lp := by rw [List.length_append]; show P.length + 1 ≤ 200; omega
  rp := fun p hp => by
    rcases List.mem_append.mp hp with h | h
    · exact wf.rp p h
    · have : p = ((x, y), v) := by simpa using h
      subst this
      exact ⟨hx, hy, ne, v1, v60⟩
theorem fit_add {B : Br} {P : Pi} (wf : Wf Nm B P) (fit : Fit B P) {x y : Str} {c d v : Int} (hc : getB B x = some c) (hd : getB B y = some d) (h1 : v ≤ c - outW P x) (h2 : v ≤ d - inW P y) (v1 : 1 ≤ v) : Fit B (P ++ [((x, y), v)]) := fun p hp => by
  obtain ⟨f1, f2⟩ := fit p hp
  have g := getB_of_mem wf.nb (show (p.1, p.2) ∈ B from hp)
  rw [outW_add, inW_add]
  show outW P p.1 + (if x = p.1 then v else 0) ≤ p.2 ∧ inW P p.1 + (if y = p.1 then v else 0) ≤ p.2
  constructor
  · by_cases h : x = p.1
    · rw [if_pos h]
      rw [← h, hc] at g
      have : c = p.2 := Option.some.inj g
      rw [← h]; omega
    · rw [if_neg h]; omega
  · by_cases h : y = p.1
    · rw [if_pos h]
      rw [← h, hd] at g
      have : d = p.2 := Option.some.inj g
      rw [← h]; omega
    · rw [if_neg h]; omega
/-! ### one pipe less -/
def less (P : Pi) (q : Str × Str) : Pi := P.filter fun p => decide (p.1 ≠ q)
theorem drop_pt (P : Pi) (q : Str × Str) : dropK (pt P) (Rl.pk q) = pt (less P q) := by
  unfold dropK pt less
  rw [List.filter_map]
  congr 1
  refine List.filter_congr fun p _ => ?_
  show decide (Rl.pk p.1 ≠ Rl.pk q) = decide (p.1 ≠ q)
  by_cases h : p.1 = q
  · rw [h]; simp
  · rw [decide_eq_true (show p.1 ≠ q from h)]
    exact decide_eq_true fun e => h (Rl.pk_inj e)
theorem less_sub {P : Pi} {q : Str × Str} {p : (Str × Str) × Int} (h : p ∈ less P q) : p ∈ P := (List.mem_filter.mp h).1
theorem wf_less {B : Br} {P : Pi} (wf : Wf Nm B P) (q : Str × Str) : Wf Nm B (less P q) where
  nb := wf.nb
  lb := wf.lb
  rb := wf.rb
  np := wf.np.sublist (List.filter_sublist.map _)
  lp := Nat.le_trans (List.length_filter_le _ _) wf.lp
  rp := fun p hp => wf.rp p (less_sub hp)
theorem sum_less {B : Br} {P : Pi} (wf : Wf Nm B P) (q : Str × Str) (f : (Str × Str) × Int → Bool) : sumOf f (less P q) ≤ sumOf f P := by
  rw [sumOf_split f (fun p => decide (p.1 ≠ q)) P]
  have := sumOf_nonneg (f := f) (P := P.filter fun p => !decide (p.1 ≠ q)) fun p hp => by
    have := (wf.rp p (List.mem_filter.mp hp).1).2.2.2.1
    omega
  unfold less
  omega
theorem fit_less {B : Br} {P : Pi} (wf : Wf Nm B P) (fit : Fit B P) (q : Str × Str) : Fit B (less P q) := fun p hp => by
  obtain ⟨f1, f2⟩ := fit p hp
  have := sum_less wf q (fun r => decide (r.1.1 = p.1))
  have := sum_less wf q (fun r => decide (r.1.2 = p.1))
  unfold outW inW at *
  omega
theorem sumOf_ge {B : Br} {P : Pi} (wf : Wf Nm B P) {f : (Str × Str) × Int → Bool} {R : Pi} (hs : ∀ p ∈ R, p ∈ P) {p : (Str × Str) × Int} (hp : p ∈ R) (hf : f p = true) : 1 ≤ sumOf f R := by
  obtain ⟨l, r, rfl⟩ := List.append_of_mem hp
  rw [sumOf_append, show p :: r = [p] ++ r from rfl, sumOf_append, sumOf_one, if_pos hf]
  have nn : ∀ R' : Pi, (∀ q ∈ R', q ∈ l ++ p :: r) → 0 ≤ sumOf f R' := fun R' h => sumOf_nonneg fun q hq => by
    have := (wf.rp q (hs q (h q hq))).2.2.2.1
    omega
  have h1 := nn l fun q hq => List.mem_append_left _ hq
  have h2 := nn r fun q hq => List.mem_append_right _ (List.mem_cons_of_mem _ hq)
  have h3 := (wf.rp p (hs p hp)).2.2.2.1
  omega
theorem out_less {B : Br} {P : Pi} (wf : Wf Nm B P) {x y : Str} {v : Int} (h : ((x, y), v) ∈ P) : outW (less P (x, y)) x < outW P x := by
  unfold outW
  rw [sumOf_split (fun p => decide (p.1.1 = x)) (fun p => decide (p.1 ≠ (x, y))) P]
  have := sumOf_ge wf (f := fun p => decide (p.1.1 = x)) (R := P.filter fun p => !decide (p.1 ≠ (x, y))) (fun p hp => (List.mem_filter.mp hp).1) (p := ((x, y), v)) (List.mem_filter.mpr ⟨h, by simp⟩) (decide_eq_true rfl)
  unfold less
  omega
/-- a way out stays, and the pond that lost its pipe soaks -/
theorem opn_less {B : Br} {P : Pi} (wf : Wf Nm B P) (fit : Fit B P) {x y : Str} {v : Int} (h : ((x, y), v) ∈ P) : Opn B (less P (x, y)) x ∧ ∀ z, Opn B P z → Opn B (less P (x, y)) z := by
  have hx : Opn B (less P (x, y)) x := by
    obtain ⟨c, hc⟩ := getB_some (wf.rp _ h).1
    have m := getB_mem hc
    have f := (fit _ m).1
    have o := out_less wf h
    exact .soak m (by
      show outW (less P (x, y)) x < c
      have f' : outW P x ≤ c := f
      omega)
  refine ⟨hx, fun z o => ?_⟩
  induction o with
  | @soak z b m l =>
    refine .soak m ?_
    have := sum_less wf (x, y) (fun r => decide (r.1.1 = z))
    unfold outW at *
    omega
  | @step a b w m _ ih =>
    by_cases e : (a, b) = (x, y)
    · have : a = x := congrArg Prod.fst e
      rw [this]; exact hx
    · exact .step (List.mem_filter.mpr ⟨m, decide_eq_true e⟩) ih
/-- at most n ponds have no way out -/
def Few (B : Br) (P : Pi) (n : Nat) : Prop := ∀ L : List Str, L.Nodup → (∀ x ∈ L, x ∈ nms B ∧ ¬ Opn B P x) → L.length ≤ n
theorem few_all {B : Br} {P : Pi} : Few B P B.length := fun L nd h => by
  have := len_le_of_sub nd (m := nms B) fun x hx => (h x hx).1
  rw [nms_len] at this
  exact this
theorem few_less {B : Br} {P : Pi} (wf : Wf Nm B P) (fit : Fit B P) {x y : Str} {v : Int} (h : ((x, y), v) ∈ P) (cx : ¬ Opn B P x) {n : Nat} (f : Few B P (n + 1)) : Few B (less P (x, y)) n := fun L nd hl => by
  obtain ⟨ox, keep⟩ := opn_less wf fit h
  have := f (x :: L) (List.nodup_cons.mpr ⟨fun m => (hl x m).2 ox, nd⟩) fun z hz => by
    rcases List.mem_cons.mp hz with rfl | hz
    · exact ⟨(wf.rp _ h).1, cx⟩
    · exact ⟨(hl z hz).1, fun o => (hl z hz).2 (keep z o)⟩
  rw [List.length_cons] at this
  omega
theorem few_none {B : Br} {P : Pi} (h : ∀ x, x ∈ nms B → Opn B P x) (n : Nat) : Few B P n := fun L nd hl => by
  cases L with
  | nil => exact Nat.zero_le _
  | cons x l => exact absurd (h x (hl x List.mem_cons_self).1) (hl x List.mem_cons_self).2
theorem few_zero {B : Br} {P : Pi} (f : Few B P 0) : ∀ x ∈ nms B, Opn B P x := fun x hx => by
  by_cases o : Opn B P x
  · exact o
  · have := f [x] (by simp) fun z hz => by
      have : z = x := by simpa using hz
      subst this; exact ⟨hx, o⟩
    exact absurd this (by show ¬ (1 ≤ 0); decide)
/-- a closed pond has a pipe -/
theorem closed_pipe {B : Br} {P : Pi} (wf : Wf Nm B P) {x : Str} (hx : x ∈ nms B) (cx : ¬ Opn B P x) : ∃ y v, ((x, y), v) ∈ P := by
  obtain ⟨c, hc⟩ := getB_some hx
  have m := getB_mem hc
  have c1 := (wf.rb _ m).2.1
  have nl : ¬ outW P x < c := fun l => cx (.soak m l)
  cases hf : P.filter fun p => decide (p.1.1 = x) with
  | nil =>
    have : outW P x = 0 := by unfold outW sumOf; rw [hf]; rfl
    have c1' : 1 ≤ c := c1
    omega
  | cons p r =>
    have hp : p ∈ P.filter fun p => decide (p.1.1 = x) := by rw [hf]; exact List.mem_cons_self
    obtain ⟨h1, h2⟩ := List.mem_filter.mp hp
    have e : p.1.1 = x := of_decide_eq_true h2
    exact ⟨p.1.2, p.2, by rw [← e]; exact h1⟩
end Nl
end
section
set_option maxHeartbeats 2000000
namespace Nl
open PySem PySem.Spec PyProof.Rows L2 Nt
theorem pair_lc {K : PySem.W.Frag} {qs : List (Addr × (Str × Str))} {e D : Addr} {H1 : Hp} {σ : L2.St} {jv jn : Nat} {z : Str} {Qd : Hp → Prop} (ln : qs.length ≤ 900) (he : H1 e = some (.lst (qs.map fun q => V.ref q.1))) (nD : H1 D = none)
    (hq : ∀ q ∈ qs, H1 q.1 = some (.tup [.str q.2.1, .str q.2.2]))
    (hv : ∀ q : Addr, ((wipe σ [jv]).set jv (some (.ref q)))[jv]? = some (some (V.ref q))) (hn : ∀ q : Addr, ((wipe σ [jv]).set jv (some (.ref q)))[jn]? = some (some (V.str z)))
    (hw : ∀ q : Addr, wipe ((wipe σ [jv]).set jv (some (.ref q))) [jv] = wipe σ [jv])
    (hd : ∀ H2, H2 D = some (.lst ((qs.filter fun q => decide (q.2.1 = z)).map fun q => V.ref q.1)) → Same H1 H2 → Qd H2) :
    ∃ W : Nat → Nat → Hp → Prop, (∃ m, W 0 m (upd H1 D (.lst []))) ∧ ∀ i m H, W i m H →
      ((Itl K e).stop i H ∧ Qd H) ∨ ((Itl K e).go i H ∧ ∃ Nx : Hp → Prop, (∀ H', Nx H' → ∃ m', m' < m ∧ W (i + 1) m' H') ∧
        ∀ x H', (Itl K e).yld i H x H' → gName jv x (wipe σ [jv]) H' fun σ2 H2 => wipe σ2 [jv] = wipe σ [jv] ∧ tTest (tOp rEq (tOp (rIxT K) (tVar jv) (tC (.int 0))) (tVar jn)) σ2 H2 fun b H3 =>
          if b = true then tVar jv σ2 H3 fun y H4 => ∃ acc, H4 D = some (.lst acc) ∧ acc.length < sizeLine ∧ Nx (upd H4 D (.lst (acc ++ [y]))) else Nx H3) := by
  refine lc_it (walk_list (K := K) (a := e) (xs := qs.map fun q => V.ref q.1)) (fun i H2 => H2 D = some (.lst (((qs.take i).filter fun q => decide (q.2.1 = z)).map fun q => V.ref q.1)) ∧ Same H1 H2) ⟨upd_same, same_new nD⟩ (fun i H2 _ h => SqL.of (h.2 e _ he)) ?_ ?_
  · rintro i x H2 H2' hi ⟨hD, sm⟩ ⟨rfl, hx⟩
    rw [List.getElem?_map] at hx
    cases hy : qs[i]? with
    | none => rw [hy] at hx; cases hx
    | some q =>
      rw [hy] at hx
      have hx' : V.ref q.1 = x := Option.some.inj hx
      subst hx'
      have tk : qs.take (i + 1) = qs.take i ++ [q] := by rw [List.take_add_one, hy]; rfl
      refine ⟨hw q.1, .ref q.1, hv q.1, q.1, [.str q.2.1, .str q.2.2], 0, .str q.2.1, rfl, rfl, SqT.of (sm _ _ (hq q (List.mem_of_getElem? hy))), atI_nat (j := 0) rfl, .str z, hn q.1, rfl, _, rfl, ?_⟩
      rw [decStr]
      refine ite2 (fun c => ?_) (fun c => ?_)
      · refine ⟨.ref q.1, hv q.1, _, hD, ?_, ?_, ?_⟩
        · rw [List.length_map]
          refine small1000 (Nat.le_trans (List.length_filter_le _ _) ?_)
          rw [List.length_take]; omega
        · rw [upd_same, tk, List.filter_append, List.map_append]
          show _ = some (HO.lst (_ ++ List.map _ (List.filter _ [q])))
          rw [List.filter_cons, if_pos c]; rfl
        · exact fun c o ec => by
            have nb : c ≠ D := ne_of_none ec nD
            rw [upd_ne nb]; exact sm c o ec
      · refine ⟨?_, sm⟩
        rw [hD, tk, List.filter_append]
        show _ = some (HO.lst (List.map _ (_ ++ List.filter _ [q])))
        rw [List.filter_cons, if_neg c]
        simp
  · rintro H2 ⟨hD, sm⟩
    rw [List.length_map, List.take_length] at hD
    exact hd H2 hD sm
theorem str_at {L : List Str} {d : Int} (h0 : 0 ≤ d) (h1 : d < L.length) : ∃ x, atI (L.map V.str) d = some (.str x) ∧ x ∈ L := by
  obtain ⟨j, rfl⟩ : ∃ j : Nat, d = (j : Int) := ⟨d.toNat, by omega⟩
  have hj : j < L.length := by omega
  exact ⟨L[j], atI_nat (by rw [List.getElem?_map, List.getElem?_eq_getElem hj]; rfl), List.getElem_mem hj⟩
theorem nms_at {B : Br} {i : Nat} {v : V} (h : ((nms B).map V.str)[i]? = some v) : ∃ x, v = .str x ∧ (nms B)[i]? = some x := by
  rw [List.getElem?_map] at h
  cases e : (nms B)[i]? with
  | none => rw [e] at h; cases h
  | some x => rw [e] at h; exact ⟨x, (Option.some.inj h).symm, rfl⟩
end Nl
end
section
set_option maxHeartbeats 2000000
namespace Nl
open PySem PySem.Spec PyProof.Rows L2 Nt
section
variable {P : Program} {w : World} {K : PySem.W.Frag} {mg : Str → Option Value} {base : Heap}
theorem scNet : FnScope ["_law_pot_here", "_law_most", "_law_high", "_law_brims", "_law_pipes", "_law_names", "_law_k", "_law_name_here", "_law_one", "_law_other", "_law_room", "_law_turn", "_law_closed_here", "_law_pair"] ["_law_pot_here", "_law_most", "_law_high"] (defScope sNet) := ⟨rfl, rfl, rfl, by decide +kernel, rfl, by decide +kernel, by decide +kernel⟩
def spNet : Sp := fun vs H Q _ => ∃ (p : Addr) (mo hi : Int), vs = [.ref p, .int mo, .int hi] ∧ PotAt H p ∧ 4 ≤ mo ∧ mo ≤ 12 ∧ 1 ≤ hi ∧ hi ≤ 60 ∧
  ∀ (t a b : Addr) (B : Br) (Pp : Pi) (H' : Hp), Kp p H H' → PotAt H' p → H t = none → H a = none → H b = none → H' t = some (.tup [.ref a, .ref b]) → H' a = some (.dK (bk B)) → H' b = some (.dT (pt Pp)) → Good B Pp → (B.length : Int) ≤ mo → (∀ r ∈ B, r.2 ≤ hi) → Q (.ref t) H'
theorem ok_net {f fD fN fO fI fC : Addr} {fd fdD fdN fdO fdI fdC : FuncData} (F : Fun K "_law_net" "_law_net" sNet f fd) (FD : Fun K "_law_draw" "_law_draw" sDraw fD fdD) (GD : FnOk P w K mg base CX0 1 fD fdD ["_law_pot_here", "_law_many"] spDraw) (bD : Binds K fdD ["_law_pot_here", "_law_many"] []) (gD : mg "_law_draw" = some (.ref fD))
    (FN : Fun K "_law_name" "_law_name" sLName fN fdN) (GN : FnOk P w K mg base CX0 2 fN fdN ["_law_pot_here", "_law_taken"] spLName) (bN : Binds K fdN ["_law_pot_here", "_law_taken"] []) (gN : mg "_law_name" = some (.ref fN))
    (FO : Fun K "_law_out" "_law_out" sLOut fO fdO) (GO : FnOk P w K mg base CX0 1 fO fdO ["_law_pipes", "_law_name_here"] spLOut) (bO : Binds K fdO ["_law_pipes", "_law_name_here"] []) (gO : mg "_law_out" = some (.ref fO))
    (FI : Fun K "_law_in" "_law_in" sLIn fI fdI) (GI : FnOk P w K mg base CX0 1 fI fdI ["_law_pipes", "_law_name_here"] spLIn) (bI : Binds K fdI ["_law_pipes", "_law_name_here"] []) (gI : mg "_law_in" = some (.ref fI))
    (FC : Fun K "_law_closed" "_law_closed" sClosed fC fdC) (GC : FnOk P w K mg base CX0 2 fC fdC ["_law_brims", "_law_pipes"] spClosed) (bC : Binds K fdC ["_law_brims", "_law_pipes"] []) (gC : mg "_law_closed" = some (.ref fC))
    (mr : mg "range" = none) (mn : mg "len" = none) (mm : mg "min" = none) (mso : mg "sorted" = none) : FnOk P w K mg base CX0 3 f fd ["_law_pot_here", "_law_most", "_law_high"] spNet := by
  refine F.ok scNet (fun vs H Q E h => ?_) (fun cdv A outer s H vs Q E hr h => ?_)
  · obtain ⟨p, mo, hi, rfl, _⟩ := h
    rfl
  · obtain ⟨p, mo, hi, rfl, hP, mo4, mo12, hi1, hi60, q⟩ := h
    have hu := hu_of hr
    have hr1 := hr.mono (show 1 ≤ 2 by decide)
    refine ⟨_, pss_cons (ps_par3 (i := 3) (j := 4) (l := 5) rfl scNet.nd rfl rfl rfl (by decide) (by decide) (by decide) rfl rfl rfl (pa_cons pe_dnewK (pa_cons pe_dnewT (pa_cons (pe_lst pa_nil) pa_nil))) (by rfl))
      (pss_cons (ps_for PassesOwn.never rfl (pi_range1 (by rfl) mr (pa_cons (pe_callB (call_min2 rfl) (by rfl) mm (by decide +kernel) (pa_cons (pv 1) (pa_cons (pe_ix ix_list (pe_lst (pa_cons pe_int (pa_cons pe_int (pa_cons pe_int (pa_cons pe_int (pa_cons pe_int (pa_cons pe_int (pa_cons (pe_call GD hr1 (by rfl) gD FD.kp bD .nil pass0 (pa_cons (pv 0) (pa_cons (pe_op op_add (pv 1) pe_int) pa_nil))) (pa_cons (pv 1) pa_nil)))))))))
          (pe_call GD hr1 (by rfl) gD FD.kp bD .nil pass0 (pa_cons (pv 0) (pa_cons pe_int pa_nil))) (fun _ _ => rfl)) pa_nil))) pa_nil)) (pg_name (i := 6) scNet.nd rfl (Or.inl rfl))
        (pss_one (ps_dput hu (pv 3) (pe_call GN hr (by rfl) gN FN.kp bN .nil pass0 (pa_cons (pv 0) (pa_cons (pv 5) pa_nil))) (pe_op op_add pe_int (pe_call GD hr1 (by rfl) gD FD.kp bD .nil pass0 (pa_cons (pv 0) (pa_cons (pe_ix ix_list (pe_lst (pa_cons (pv 2) (pa_cons (pe_callB (call_min2 rfl) (by rfl) mm (by decide +kernel) (pa_cons pe_int (pa_cons (pv 2) pa_nil))) pa_nil)))
            (pe_call GD hr1 (by rfl) gD FD.kp bD .nil pass0 (pa_cons (pv 0) (pa_cons pe_int pa_nil))) (fun _ _ => rfl)) pa_nil)))) rfl)))
      (pss_cons (ps_for PassesOwn.never rfl (pi_list (pv 5)) (pg_name (i := 8) scNet.nd rfl (Or.inr rfl))
        (pss_one (ps_for PassesOwn.never rfl (pi_list (pv 5)) (pg_name (i := 9) scNet.nd rfl (Or.inl rfl))
          (pss_cons (ps_set (i := 10) scNet.nd rfl (by first | exact .inl rfl | exact .inr rfl) (pe_callB (call_min2 rfl) (by rfl) mm (by decide +kernel) (pa_cons (pe_op op_sub (pe_dget hu (pv 3) (pv 8) (fun _ _ => rfl)) (pe_call GO hr1 (by rfl) gO FO.kp bO .nil pass0 (pa_cons (pv 4) (pa_cons (pv 8) pa_nil))))
            (pa_cons (pe_op op_sub (pe_dget hu (pv 3) (pv 9) (fun _ _ => rfl)) (pe_call GI hr1 (by rfl) gI FI.kp bI .nil pass0 (pa_cons (pv 4) (pa_cons (pv 9) pa_nil)))) pa_nil))))
          (pss_one (ps_if (PW.pt (pw_and (pt_cmpR op_ne (pv 8) (pv 9) (nomark _)) (pw_and (pt_cmpR op_gt (pv 10) pe_int (nomark _)) (pw_and1 (pt_cmpR op_gt (pe_call GD hr1 (by rfl) gD FD.kp bD .nil pass0 (pa_cons (pv 0) (pa_cons pe_int pa_nil))) pe_int (nomark _))))))
            (pss_one (ps_dput hu (pv 4) (pe_tup (pa_cons (pv 8) (pa_cons (pv 9) pa_nil))) (pe_ix ix_list (pe_lst (pa_cons (pe_op op_add pe_int (pe_call GD hr1 (by rfl) gD FD.kp bD .nil pass0 (pa_cons (pv 0) (pa_cons (pv 10) pa_nil)))) (pa_cons (pv 10) (pa_cons pe_int pa_nil))))
              (pe_call GD hr1 (by rfl) gD FD.kp bD .nil pass0 (pa_cons (pv 0) (pa_cons pe_int pa_nil))) (fun _ _ => rfl)) rfl)) pss_nil))))))
      (pss_cons (ps_for PassesOwn.never rfl (pi_range1 (by rfl) mr (pa_cons (pe_callB call_len_seq (by rfl) mn PySem.boot_len (pa_cons (pv 5) pa_nil)) pa_nil)) (pg_name (i := 11) scNet.nd rfl (Or.inl rfl))
        (pss_cons (ps_set (i := 12) scNet.nd rfl (by first | exact .inl rfl | exact .inr rfl) (pe_call GC hr (by rfl) gC FC.kp bC .nil pass0 (pa_cons (pv 3) (pa_cons (pv 4) pa_nil))))
        (pss_one (ps_if (pt_cmpR (op_neD hr.units) (pv 12) (pe_lst pa_nil) (nomark _))
          (pss_cons (ps_set (i := 8) scNet.nd rfl (by first | exact .inl rfl | exact .inr rfl) (pe_ix ix_list (pv 12) (pe_call GD hr1 (by rfl) gD FD.kp bD .nil pass0 (pa_cons (pv 0) (pa_cons (pe_callB call_len_seq (by rfl) mn PySem.boot_len (pa_cons (pv 12) pa_nil)) pa_nil))) (fun _ _ => rfl)))
          (pss_one (ps_expr (pe_bm PySem.F.plainAttrs_dict PySem.F.slot_dict_pop PySem.F.type_dict_pop (Rl.mt_popT1 hu) (pv 4) (pa_cons (pe_ix ix_list (pe_lc (own := [("_law_pair", 13)]) (g := gName 13)
            (tt := tTest (tOp rEq (tOp (rIxT K) (tVar 13) (tC (.int 0))) (tVar 8))) (te := tVar 13) rfl scNet.nd (pi_list (pe_callB (Rl.call_sortD rfl) (by rfl) mso (by decide +kernel) (pa_cons (pv 4) pa_nil)))
            (blkOk_by (N := ["_law_pot_here", "_law_most", "_law_high", "_law_brims", "_law_pipes", "_law_names", "_law_k", "_law_name_here", "_law_one", "_law_other", "_law_room", "_law_turn", "_law_closed_here", "_law_pair"]) (sc := defScope sNet) (by decide +kernel))
            (fun _ _ _ _ _ => pg_name (i := 13) scNet.nd rfl (Or.inl rfl)) (fun _ _ _ _ _ => pts_one (pt_cmpR op_eq (pe_ix ix_tup (pv 13) pe_int (fun _ _ => rfl)) (pv 8) (nomark _))) (fun _ _ _ _ _ => pv 13)) pe_int (fun _ _ => rfl)) pa_nil))))) pss_nil))))
      (pss_one (ps_ret (pe_tup (pa_cons (pv 3) (pa_cons (pv 4) pa_nil)))))))), ?_⟩
    -- {}, {}, []
    refine fun a na => ?_
    refine fun b nb => ?_
    refine ⟨Nat.zero_le _, fun n nn => ?_⟩
    refine ⟨_, _, _, rfl, ?_⟩
    have hab : a ≠ b := ne_of_none upd_same nb
    have hbn : b ≠ n := ne_of_none upd_same nn
    have han : a ≠ n := ne_of_none (show (upd (upd H a (.dK [])) b (.dT [])) a = some (.dK []) by rw [upd_ne hab]; exact upd_same) nn
    have hap := hP.ne na
    have hbp := (hP.new (o := .dK []) na).ne nb
    have hnp := ((hP.new (o := .dK []) na).new (o := .dT []) nb).ne nn
    have nbH : H b = none := by rw [upd_ne (Ne.symm hab)] at nb; exact nb
    have nnH : H n = none := by
      rw [upd_ne (Ne.symm hbn), upd_ne (Ne.symm han)] at nn; exact nn
    have hP0 : PotAt (upd (upd (upd H a (.dK [])) b (.dT [])) n (.lst [])) p := ((hP.new na).new nb).new nn
    have k0 : Kp p H (upd (upd (upd H a (.dK [])) b (.dT [])) n (.lst [])) := (Kp.new na).trans ((Kp.new nb).trans (Kp.new nn))
    have ha0 : (upd (upd (upd H a (.dK [])) b (.dT [])) n (.lst [])) a = some (.dK (bk [])) := by rw [upd_ne han, upd_ne hab]; exact upd_same
    have hb0 : (upd (upd (upd H a (.dK [])) b (.dT [])) n (.lst [])) b = some (.dT (pt [])) := by rw [upd_ne hbn]; exact upd_same
    have hn0 : (upd (upd (upd H a (.dK [])) b (.dT [])) n (.lst [])) n = some (.lst ((nms []).map V.str)) := upd_same
    obtain ⟨H0, hH0⟩ : ∃ H0, H0 = upd (upd (upd H a (.dK [])) b (.dT [])) n (.lst []) := ⟨_, rfl⟩
    rw [← hH0] at hP0 k0 ha0 hb0 hn0 ⊢
    -- the number of ponds
    refine ⟨.int mo, rfl, .ref p, rfl, .int mo, rfl, mo, 1, rfl, rfl, p, _, rfl, hP0, by omega, by omega, fun d1 H1 k1 hP1 d10 d11 => ?_⟩
    refine ⟨.int mo, rfl, line1000 (by show 8 ≤ 1000; decide), fun l nl => ?_⟩
    have hlp := hP1.ne nl
    refine ⟨.ref p, rfl, p, 8, rfl, hP1.new nl, by decide, by decide, fun d2 H2 k2 hP2 d20 d21 => ?_⟩
    have hsz : ∃ sz : Int, atI [V.int 0, V.int 1, V.int 2, V.int 3, V.int 3, V.int 4, V.int d1, V.int mo] d2 = some (.int sz) ∧ 0 ≤ sz ∧ sz ≤ mo := by
      have : d2 = 0 ∨ d2 = 1 ∨ d2 = 2 ∨ d2 = 3 ∨ d2 = 4 ∨ d2 = 5 ∨ d2 = 6 ∨ d2 = 7 := by omega
      rcases this with rfl | rfl | rfl | rfl | rfl | rfl | rfl | rfl
      · exact ⟨0, atI_nat (j := 0) rfl, by omega, by omega⟩
      · exact ⟨1, atI_nat (j := 1) rfl, by omega, by omega⟩
      · exact ⟨2, atI_nat (j := 2) rfl, by omega, by omega⟩
      · exact ⟨3, atI_nat (j := 3) rfl, by omega, by omega⟩
      · exact ⟨3, atI_nat (j := 4) rfl, by omega, by omega⟩
      · exact ⟨4, atI_nat (j := 5) rfl, by omega, by omega⟩
      · exact ⟨d1, atI_nat (j := 6) rfl, by omega, by omega⟩
      · exact ⟨mo, atI_nat (j := 7) rfl, by omega, by omega⟩
    obtain ⟨sz, hat, sz0, szm⟩ := hsz
    have kk : Kp p H0 H2 := k1.trans ((Kp.new nl).trans k2)
    refine ⟨l, _, d2, .int sz, rfl, rfl, SqL.of (k2 l _ hlp upd_same), hat, mo, sz, rfl, _, rfl, by split <;> omega, by split <;> omega, ?_⟩
    rw [show (if sz < mo then sz else mo) = sz by split <;> omega]
    refine for_it walk_range (fun i σ H3 => ∃ (B : Br) (y6 y7 : Option V), σ = [some (.ref p), some (.int mo), some (.int hi), some (.ref a), some (.ref b), some (.ref n), y6, y7, none, none, none, none, none, none] ∧ H3 a = some (.dK (bk B)) ∧ H3 b = some (.dT (pt [])) ∧ H3 n = some (.lst ((nms B).map V.str)) ∧
        (nms B).Nodup ∧ B.length = i ∧ (∀ r ∈ B, Nm r.1 ∧ 1 ≤ r.2 ∧ r.2 ≤ 60) ∧ Kp p H H3 ∧ PotAt H3 p ∧ ∀ r ∈ B, r.2 ≤ hi)
      ⟨[], none, none, rfl, kk a _ hap ha0, kk b _ hbp hb0, kk n _ hnp hn0, List.nodup_nil, rfl, fun r h => absurd h List.not_mem_nil, k0.trans kk, hP2, fun r h => absurd h List.not_mem_nil⟩ (fun _ _ _ _ _ => trivial) ?_ ?_
    · rintro i x σ H3 H3' hi3 ⟨B, y6, y7, rfl, ha3, hb3, hn3, ndB, lB, okB, kp, hP3, hiB⟩ ⟨rfl, rfl⟩
      · refine ⟨.ref p, rfl, .int hi, rfl, .int hi, rfl, 4, hi, rfl, line1000 (by show 2 ≤ 1000; decide), fun l4 nl4 => ?_⟩
        have hlp4 := hP3.ne nl4
        refine ⟨.ref p, rfl, p, 2, rfl, hP3.new nl4, by decide, by decide, fun d5 H5 k5 hP5 d50 d51 => ?_⟩
        have hm : ∃ m : Int, atI [V.int hi, V.int (if hi < 4 then hi else 4)] d5 = some (.int m) ∧ 1 ≤ m ∧ m ≤ 60 ∧ m ≤ hi := by
          have : d5 = 0 ∨ d5 = 1 := by omega
          rcases this with rfl | rfl
          · exact ⟨hi, atI_nat (j := 0) rfl, hi1, hi60, Int.le_refl _⟩
          · refine ⟨_, atI_nat (j := 1) rfl, ?_, ?_, ?_⟩
            · split <;> omega
            · split <;> omega
            · split <;> omega
        obtain ⟨m, hm, m1, m60, mhi⟩ := hm
        refine ⟨l4, _, d5, .int m, rfl, rfl, SqL.of (k5 l4 _ hlp4 upd_same), hm, p, m, rfl, hP5, by omega, by omega, fun d6 H6 k6 hP6 d60 d61 => ?_⟩
        have k36 : Kp p H3' H6 := (Kp.new nl4).trans (k5.trans k6)
        refine ⟨1, d6, rfl, rfl, .ref a, rfl, .ref p, rfl, .ref n, rfl, p, n, nms B, rfl, hP6, k36 n _ hnp hn3, by rw [nms_len]; omega, fun z hz => ?_, fun z H7 nz fz hn7 kp7 hP7 => ?_⟩
        · obtain ⟨r, hr', e⟩ := List.mem_map.mp hz
          rw [← e]; exact (okB r hr').1
        have ha7 := kp7 a _ hap han (k36 a _ hap ha3)
        have hb7 := kp7 b _ hbp hbn (k36 b _ hbp hb3)
        refine ⟨a, _, rfl, DPut.k (k := Sum.inr z) ha7 (by rw [bk_len]; exact small1000 (by omega)), ?_⟩
        refine ⟨B ++ [(z, 1 + d6)], _, _, rfl, ?_, ?_, ?_, ?_, ?_, ?_, ?_, ?_, ?_⟩
        · rw [upd_same, putK_bk fz]
        · rw [upd_ne (Ne.symm hab)]; exact hb7
        · rw [upd_ne (Ne.symm han), nms_append]; exact hn7
        · rw [nms_append]
          exact List.nodup_append.mpr ⟨ndB, by simp [nms], fun x hx1 y hy1 e => by
            have e2 : y = z := by simpa [nms] using hy1
            exact fz (by rw [← e2, ← e]; exact hx1)⟩
        · rw [List.length_append, lB]; rfl
        · intro r hr'
          rcases List.mem_append.mp hr' with h | h
          · exact okB r h
          · have : r = (z, 1 + d6) := by simpa using h
            subst this
            exact ⟨nz, by show 1 ≤ 1 + d6; omega, by show 1 + d6 ≤ 60; omega⟩
        · intro c o nc e
          have nca : c ≠ a := ne_of_none e na
          have ncn : c ≠ n := ne_of_none e nnH
          rw [upd_ne nca]
          exact kp7 c o nc ncn (k36 c o nc (kp c o nc e))
        · exact hP7.put hap
        · intro r hr'
          rcases List.mem_append.mp hr' with h | h
          · exact hiB r h
          · have : r = (z, 1 + d6) := by simpa using h
            subst this
            show 1 + d6 ≤ hi
            omega
    rintro σ H3 ⟨B, y6, y7, rfl, ha3, hb3, hn3, ndB, lB, okB, kp3, hP3, hiB⟩
    have lN : (nms B).length ≤ 12 := by rw [nms_len]; omega
    have wf0 : Wf Nm B [] := ⟨ndB, by omega, okB, List.nodup_nil, Nat.zero_le _, fun r h => absurd h List.not_mem_nil⟩
    have fit0 : Fit B [] := fun r hr' => by
      have := (okB r hr').2.1
      exact ⟨by show (0 : Int) ≤ r.2; omega, by show (0 : Int) ≤ r.2; omega⟩
    -- pipes
    refine ⟨.ref n, rfl, n, rfl, ⟨_, SqL.of hn3⟩, ?_⟩
    refine for_it (walk_list (xs := (nms B).map V.str)) (fun i σ H4 => ∃ (Pp : Pi) (y8 y9 y10 : Option V), σ = [some (.ref p), some (.int mo), some (.int hi), some (.ref a), some (.ref b), some (.ref n), y6, y7, y8, y9, y10, none, none, none] ∧ H4 a = some (.dK (bk B)) ∧ H4 b = some (.dT (pt Pp)) ∧ H4 n = some (.lst ((nms B).map V.str)) ∧
        Wf Nm B Pp ∧ Fit B Pp ∧ (∀ r ∈ Pp, r.1.1 ∈ (nms B).take i) ∧ Pp.length ≤ 12 * i ∧ Kp p H H4 ∧ PotAt H4 p)
      ⟨[], none, none, none, rfl, ha3, hb3, hn3, wf0, fit0, fun r h => absurd h List.not_mem_nil, Nat.zero_le _, kp3, hP3⟩ (fun i σ H4 _ ⟨_, _, _, _, _, _, _, h, _⟩ => SqL.of h) ?_ ?_
    · rintro i v σ H4 H4' hi4 ⟨Pp, y8, y9, y10, rfl, ha4, hb4, hn4, wf4, fit4, old4, len4, kp4, hP4⟩ ⟨rfl, hv⟩
      obtain ⟨x, rfl, hx⟩ := nms_at hv
      have mx : x ∈ nms B := List.mem_of_getElem? hx
      rw [List.length_map] at hi4
      refine ⟨.ref n, rfl, n, rfl, ⟨_, SqL.of hn4⟩, ?_⟩
      refine for_it (walk_list (xs := (nms B).map V.str)) (fun j σ H5 => ∃ (Pp : Pi) (y9 y10 : Option V), σ = [some (.ref p), some (.int mo), some (.int hi), some (.ref a), some (.ref b), some (.ref n), y6, y7, some (.str x), y9, y10, none, none, none] ∧ H5 a = some (.dK (bk B)) ∧ H5 b = some (.dT (pt Pp)) ∧ H5 n = some (.lst ((nms B).map V.str)) ∧
          Wf Nm B Pp ∧ Fit B Pp ∧ (∀ r ∈ Pp, r.1.1 ∈ (nms B).take i ∨ (r.1.1 = x ∧ r.1.2 ∈ (nms B).take j)) ∧ Pp.length ≤ 12 * i + j ∧ Kp p H H5 ∧ PotAt H5 p)
        ⟨Pp, y9, y10, rfl, ha4, hb4, hn4, wf4, fit4, fun r h => .inl (old4 r h), by omega, kp4, hP4⟩ (fun i σ H4 _ ⟨_, _, _, _, _, _, h, _⟩ => SqL.of h) ?_ ?_
      · clear wf4 fit4 old4 len4 kp4 hP4 ha4 hb4 Pp
        rintro j v σ H5 H5' hj5 ⟨Pp, y9, y10, rfl, ha5, hb5, hn5, wf5, fit5, old5, len5, kp5, hP5⟩ ⟨rfl, hv⟩
        obtain ⟨y, rfl, hy⟩ := nms_at hv
        have my : y ∈ nms B := List.mem_of_getElem? hy
        rw [List.length_map] at hj5
        have tkj : (nms B).take (j + 1) = (nms B).take j ++ [y] := by rw [List.take_add_one, hy]; rfl
        have up : ∀ r ∈ Pp, r.1.1 ∈ (nms B).take i ∨ (r.1.1 = x ∧ r.1.2 ∈ (nms B).take (j + 1)) := fun r h => (old5 r h).imp id fun ⟨h1, h2⟩ => ⟨h1, by rw [tkj]; exact List.mem_append_left _ h2⟩
        obtain ⟨cx, gx⟩ := getB_some mx
        obtain ⟨cy, gy⟩ := getB_some my
        refine ⟨.ref a, rfl, .str x, rfl, a, .int cx, rfl, .inl ⟨_, Sum.inr x, .inl ha5, rfl, by rw [valV_bk, gx]; rfl⟩, .ref b, rfl, .str x, rfl, b, Pp, x, rfl, hb5, wf5.np, wf5.lp, fun G6 t6 => ?_⟩
        refine ⟨cx, outW Pp x, rfl, rfl, .ref a, rfl, .str y, rfl, a, .int cy, rfl, .inl ⟨_, Sum.inr y, .inl (t6 a _ ha5), rfl, by rw [valV_bk, gy]; rfl⟩, .ref b, rfl, .str y, rfl, b, Pp, y, rfl, t6 b _ hb5, wf5.np, wf5.lp, fun H6 t7 => ?_⟩
        have s6 := t6.trans t7
        refine ⟨cy, inW Pp y, rfl, rfl, cx - outW Pp x, cy - inW Pp y, rfl, ?_⟩
        refine ⟨.str x, rfl, .str y, rfl, rfl, _, rfl, ?_⟩
        rw [decStr]
        by_cases nxy : x = y
        · rw [decide_eq_true nxy]
          refine iteF (iteF ?_)
          exact ⟨Pp, _, _, rfl, s6 a _ ha5, s6 b _ hb5, s6 n _ hn5, wf5, fit5, up, by omega, kp5.trans (Kp.of_same s6), hP5.same s6⟩
        · rw [decide_eq_false nxy]
          refine iteT ?_
          obtain ⟨rm, hrm⟩ : ∃ rm, rm = if cy - inW Pp y < cx - outW Pp x then cy - inW Pp y else cx - outW Pp x := ⟨_, rfl⟩
          rw [← hrm]
          have r1 : rm ≤ cx - outW Pp x := by rw [hrm]; split <;> omega
          have r2 : rm ≤ cy - inW Pp y := by rw [hrm]; split <;> omega
          have ha6 := s6 a _ ha5
          have hb6 := s6 b _ hb5
          have hn6 := s6 n _ hn5
          have kp6 : Kp p H H6 := kp5.trans (Kp.of_same s6)
          have hP6 := hP5.same s6
          refine ⟨.int rm, rfl, rm, 0, rfl, rfl, _, rfl, ite2 (fun c1 => ?_) (fun c1 => ?_)⟩
          · have rpos : 0 < rm := of_decide_eq_true c1
            have cx60 := (wf5.rb _ (getB_mem gx)).2.2
            have out0 : 0 ≤ outW Pp x := sumOf_nonneg fun r hr' => by have := (wf5.rp r hr').2.2.2.1; omega
            have rm60 : rm ≤ 60 := by
              have cx60' : cx ≤ 60 := cx60
              omega
            refine ⟨.ref p, rfl, p, 3, rfl, hP6, by decide, by decide, fun d7 H7 k7 hP7 d70 d71 => ?_⟩
            refine ⟨_, _, rfl, rfl, _, rfl, ite2 (fun c2 => ?_) (fun c2 => ?_)⟩
            · refine ⟨.ref p, rfl, .int rm, rfl, p, rm, rfl, hP7, rpos, by omega, fun d8 H8 k8 hP8 d80 d81 => ?_⟩
              refine ⟨1, d8, rfl, rfl, .int rm, rfl, line1000 (by show 3 ≤ 1000; decide), fun l8 nl8 => ?_⟩
              have hlp8 := hP8.ne nl8
              refine ⟨.ref p, rfl, p, 3, rfl, hP8.new nl8, by decide, by decide, fun d9 H9 k9 hP9 d90 d91 => ?_⟩
              have hm : ∃ m : Int, atI [V.int (1 + d8), V.int rm, V.int 1] d9 = some (.int m) ∧ 1 ≤ m ∧ m ≤ rm := by
                have : d9 = 0 ∨ d9 = 1 ∨ d9 = 2 := by omega
                rcases this with rfl | rfl | rfl
                · exact ⟨1 + d8, atI_nat (j := 0) rfl, by omega, by omega⟩
                · exact ⟨rm, atI_nat (j := 1) rfl, by omega, by omega⟩
                · exact ⟨1, atI_nat (j := 2) rfl, by omega, by omega⟩
              obtain ⟨m, hm, m1, m2⟩ := hm
              refine ⟨l8, _, d9, .int m, rfl, rfl, SqL.of (k9 l8 _ hlp8 upd_same), hm, ?_⟩
              have k69 : Kp p H6 H9 := k7.trans (k8.trans ((Kp.new nl8).trans k9))
              have hb9 := k69 b _ hbp hb6
              refine ⟨.ref b, rfl, .str x, rfl, .str y, rfl, line1000 (by show 2 ≤ 1000; decide), fun t nt => ?_⟩
              have s9 : Same H9 (upd H9 t (.tup [.str x, .str y])) := same_new nt
              have fr : (x, y) ∉ Pp.map Prod.fst := fun hm' => by
                obtain ⟨r, hr', e⟩ := List.mem_map.mp hm'
                have e1 : r.1 = (x, y) := e
                rcases old5 r hr' with h | ⟨_, h⟩
                · rw [e1] at h
                  exact take_nd ndB hx h
                · rw [e1] at h
                  exact take_nd ndB hy h
              refine ⟨b, _, rfl, DPut.t (k := Rl.pk (x, y)) (s9 b _ hb9) upd_same (by rw [pt_len]; exact small1000 (by omega)), ?_⟩
              refine ⟨Pp ++ [((x, y), m)], _, _, rfl, ?_, ?_, ?_, wf_add wf5 mx my nxy m1 (by omega) fr (by omega), fit_add wf5 fit5 gx gy (by omega) (by omega) m1, ?_, ?_, ?_, ?_⟩
              · rw [upd_ne hab]; exact s9 a _ (k69 a _ hap ha6)
              · rw [upd_same, putK_pt fr]
              · rw [upd_ne (Ne.symm hbn)]; exact s9 n _ (k69 n _ hnp hn6)
              · intro r hr'
                rcases List.mem_append.mp hr' with h | h
                · exact up r h
                · have : r = ((x, y), m) := by simpa using h
                  subst this
                  exact .inr ⟨rfl, by rw [tkj]; exact List.mem_append_right _ (List.mem_singleton.mpr rfl)⟩
              · rw [List.length_append]
                show Pp.length + 1 ≤ _
                omega
              · intro c' o nc e
                have ncb : c' ≠ b := ne_of_none e nbH
                rw [upd_ne ncb]
                exact s9 c' o (k69 c' o nc (kp6 c' o nc e))
              · exact (hP9.same s9).put hbp
            · exact ⟨Pp, _, _, rfl, k7 a _ hap ha6, k7 b _ hbp hb6, k7 n _ hnp hn6, wf5, fit5, up, by omega, kp6.trans k7, hP7⟩
          · exact iteF ⟨Pp, _, _, rfl, ha6, hb6, hn6, wf5, fit5, up, by omega, kp6, hP6⟩
      · rintro σ H5 ⟨Pp, y9, y10, rfl, ha5, hb5, hn5, wf5, fit5, old5, len5, kp5, hP5⟩
        rw [List.length_map] at len5
        refine ⟨Pp, _, _, _, rfl, ha5, hb5, hn5, wf5, fit5, fun r hr' => ?_, by omega, kp5, hP5⟩
        rw [List.take_add_one, hx]
        rcases old5 r hr' with h | ⟨h, _⟩
        · exact List.mem_append_left _ h
        · rw [h]; exact List.mem_append_right _ (List.mem_singleton.mpr rfl)
    rintro σ H4 ⟨Pp, y8, y9, y10, rfl, ha4, hb4, hn4, wf4, fit4, old4, len4, kp4, hP4⟩
    clear old4 len4
    -- ways out
    refine ⟨.ref n, rfl, n, _, rfl, .inl (SqL.of hn4), _, rfl, by rw [List.length_map]; omega, by rw [List.length_map]; omega, ?_⟩
    refine for_it walk_range (fun i σ H5 => ∃ (Pp : Pi) (y8 y11 y12 : Option V), σ = [some (.ref p), some (.int mo), some (.int hi), some (.ref a), some (.ref b), some (.ref n), y6, y7, y8, y9, y10, y11, y12, none] ∧ H5 a = some (.dK (bk B)) ∧ H5 b = some (.dT (pt Pp)) ∧
        Wf Nm B Pp ∧ Fit B Pp ∧ Few B Pp (B.length - i) ∧ Kp p H H5 ∧ PotAt H5 p)
      ⟨Pp, y8, none, none, rfl, ha4, hb4, wf4, fit4, few_all, kp4, hP4⟩ (fun _ _ _ _ _ => trivial) ?_ ?_
    · clear wf4 fit4 kp4 hP4 ha4 hb4 Pp
      rintro i x σ H5 H5' hi5 ⟨Pp, y8, y11, y12, rfl, ha5, hb5, wf5, fit5, few5, kp5, hP5⟩ ⟨rfl, rfl⟩
      have hi5' : i < B.length := by
        rw [List.length_map, nms_len] at hi5
        omega
      refine ⟨.ref a, rfl, .ref b, rfl, a, b, B, Pp, rfl, ha5, hb5, wf5, fit5, fun r L H6 s6 nr hr6 ndL memL => ?_⟩
      have nL : ∀ z ∈ L, Sm 25 z := fun z hz => by
        obtain ⟨u, hu', e⟩ := List.mem_map.mp ((memL z).mp hz).1
        rw [← (show u.1 = z from e)]
        exact (wf5.rb u hu').1.sm.mono (by decide)
      refine ⟨.ref r, rfl, Nat.zero_le _, fun e ne => ?_⟩
      have s7 : Same H6 (upd H6 e (.lst [])) := same_new ne
      have s57 := s6.trans s7
      obtain ⟨H7, hH7⟩ : ∃ H7, H7 = upd H6 e (.lst []) := ⟨_, rfl⟩
      refine ne_nil (s7 r _ hr6) upd_same nL ?_
      rw [← hH7] at s7 s57 ⊢
      have hP7 := hP5.same s57
      have hrp : r ≠ p := hP5.ne nr
      refine ⟨_, rfl, ite2 (fun c => ?_) (fun c => ?_)⟩
      · have hL0 : 0 < L.length := List.length_pos_iff.mpr fun z => by subst z; exact absurd c (by decide)
        have lL : L.length ≤ 12 := by
          have := len_le_of_sub ndL (m := nms B) fun z hz => ((memL z).mp hz).1
          omega
        refine ⟨.ref r, rfl, .ref p, rfl, .ref r, rfl, r, _, rfl, .inl (SqL.of (s7 r _ hr6)), p, _, rfl, hP7, by rw [List.length_map]; omega, by rw [List.length_map]; omega, fun d H8 k8 hP8 d0 d1 => ?_⟩
        rw [List.length_map] at d1
        obtain ⟨x, hx, mx⟩ := str_at d0 d1
        obtain ⟨mxB, cx⟩ := (memL x).mp mx
        refine ⟨r, _, d, .str x, rfl, rfl, SqL.of (k8 r _ hrp (s7 r _ hr6)), hx, ?_⟩
        have ha8 := k8 a _ hap (s57 a _ ha5)
        have hb8 := k8 b _ hbp (s57 b _ hb5)
        refine ⟨.ref b, rfl, .inr (.inr (.inl ⟨rfl, .inr ⟨_, hb8⟩⟩)), .ref b, rfl, b, pt Pp, Pp.map Prod.fst, rfl, .inl hb8, ?_, ?_, fun qs e8 pm _ hq ne8 => ?_⟩
        · unfold pt
          rw [List.map_map, List.map_map]; rfl
        · rw [List.length_map]; have := wf5.lp; omega
        have lq : qs.length ≤ 900 := by
          have h1 := pm.length_eq
          rw [List.length_map, List.length_map] at h1
          have := wf5.lp
          omega
        have s9 : Same H8 (upd H8 e8 (.lst (qs.map fun q => V.ref q.1))) := same_new ne8
        refine ⟨e8, rfl, ⟨_, SqL.of upd_same⟩, fun D nD => ?_⟩
        refine pair_lc (K := K) (z := x) lq upd_same nD (fun q hq' => s9 _ _ (hq q hq')) (fun _ => rfl) (fun _ => rfl) (fun _ => rfl) fun H9 hD9 sm9 => ?_
        have s89 := s9.trans sm9
        obtain ⟨y, v, hpipe⟩ := closed_pipe wf5 mxB cx
        cases hf : qs.filter fun q => decide (q.2.1 = x) with
        | nil =>
          have hm : (x, y) ∈ qs.map (·.2) := pm.mem_iff.mpr (List.mem_map.mpr ⟨_, hpipe, rfl⟩)
          obtain ⟨q0, hq0, e0⟩ := List.mem_map.mp hm
          have : q0 ∈ qs.filter fun q => decide (q.2.1 = x) := List.mem_filter.mpr ⟨hq0, decide_eq_true (by rw [e0])⟩
          rw [hf] at this
          exact absurd this List.not_mem_nil
        | cons q0 rest =>
          rw [hf] at hD9
          have hq0 : q0 ∈ qs.filter fun q => decide (q.2.1 = x) := by rw [hf]; exact List.mem_cons_self
          obtain ⟨m1, m2⟩ := List.mem_filter.mp hq0
          have e1 : q0.2.1 = x := of_decide_eq_true m2
          have hm : q0.2 ∈ Pp.map Prod.fst := pm.mem_iff.mp (List.mem_map.mpr ⟨q0, m1, rfl⟩)
          obtain ⟨pp, hpp, epp⟩ := List.mem_map.mp hm
          have epp' : pp.1 = q0.2 := epp
          have hpq : ((x, q0.2.2), pp.2) ∈ Pp := by
            have : pp = ((x, q0.2.2), pp.2) := by
              rw [← e1]
              show pp = (q0.2, pp.2)
              rw [← epp']
            rw [← this]; exact hpp
          have hT := s89 _ _ (hq q0 m1)
          rw [e1] at hT
          refine ⟨D, _, 0, .ref q0.1, rfl, rfl, SqL.of hD9, atI_nat (j := 0) rfl, b, pt Pp, Rl.pk (x, q0.2.2), q0.1, .int pp.2, rfl, rfl, s89 b _ hb8, hT, ?_, ?_⟩
          · rw [valV_pt, getP_of_mem wf5.np hpq]; rfl
          · rw [drop_pt]
            refine ⟨less Pp (x, q0.2.2), _, _, _, rfl, ?_, upd_same, wf_less wf5 _, fit_less wf5 fit5 _, ?_, ?_, ?_⟩
            · rw [upd_ne hab]; exact s89 a _ ha8
            · have : B.length - i = (B.length - (i + 1)) + 1 := by omega
              rw [this] at few5
              exact few_less wf5 fit5 hpq cx few5
            · intro c' o nc e'
              have ncb : c' ≠ b := ne_of_none e' nbH
              rw [upd_ne ncb]
              exact s89 c' o (k8 c' o nc (s57 c' o (kp5 c' o nc e')))
            · exact (hP8.same s89).put hbp
      · have hL : L = [] := by
          cases L with
          | nil => rfl
          | cons x y => exact absurd rfl c
        subst hL
        refine ⟨Pp, _, _, _, rfl, s57 a _ ha5, s57 b _ hb5, wf5, fit5, few_none (fun x hx => ?_) _, kp5.trans (Kp.of_same s57), hP7⟩
        by_cases o : Opn B Pp x
        · exact o
        · exact absurd ((memL x).mpr ⟨hx, o⟩) List.not_mem_nil
    · rintro σ H5 ⟨Pp, y8, y11, y12, rfl, ha5, hb5, wf5, fit5, few5, kp5, hP5⟩
      have e0 : B.length - (((((nms B).map V.str).length : Nat) : Int)).toNat = 0 := by
        rw [List.length_map, nms_len]; omega
      rw [e0] at few5
      refine ⟨.ref a, rfl, .ref b, rfl, line1000 (by show 2 ≤ 1000; decide), fun t nt => ?_⟩
      have st : Same H5 (upd H5 t (.tup [.ref a, .ref b])) := same_new nt
      have ntH : H t = none := by
        cases e : H t with
        | none => rfl
        | some o =>
          have htp : t ≠ p := hP5.ne nt
          have := kp5 t o htp e
          rw [nt] at this; cases this
      exact q t a b B Pp _ (kp5.trans (Kp.of_same st)) (hP5.same st) ntH na nbH upd_same (st a _ ha5) (st b _ hb5) ⟨wf5, fit5, few_zero few5⟩ (by omega) hiB
end
end Nl
end
section
set_option maxHeartbeats 1000000
namespace Nl
open PySem PySem.Spec PyProof.Rows L2 Nt
/-! ### what a stand tells is the same, whatever the order of the dicts -/
theorem val0_of_mem {B : Br} (nd : (nms B).Nodup) {x : Str} {c : Int} (h : (x, c) ∈ B) : val0 B x = c := by
  unfold val0
  rw [getB_of_mem nd h]; rfl
theorem val0_perm {B B' : Br} (pm : B.Perm B') (nd : (nms B).Nodup) (x : Str) : val0 B x = val0 B' x := by
  have nd' : (nms B').Nodup := (pm.map Prod.fst).nodup_iff.mp nd
  by_cases h : x ∈ nms B
  · obtain ⟨p, hp, e⟩ := List.mem_map.mp h
    have e' : p.1 = x := e
    rw [← e', val0_of_mem nd (show (p.1, p.2) ∈ B from hp), val0_of_mem nd' (show (p.1, p.2) ∈ B' from pm.mem_iff.mp hp)]
  · have h' : x ∉ nms B' := fun m => h ((pm.map Prod.fst).mem_iff.mpr m)
    unfold val0
    rw [getB_none h, getB_none h']
theorem insOf_perm {P P' : Pi} (pm : P.Perm P') (z : Str) : (insOf P z).Perm (insOf P' z) := (pm.filter _).map _
theorem waterOf_same {B B' Qp Qp' Qc Qc' : Br} {P P' : Pi} (pB : B.Perm B') (nd : (nms B).Nodup) (pP : P.Perm P') {z : Str} (hz : z ∈ nms B) (rp : ∀ r ∈ P, r.1.1 ∈ nms B) (hp : ∀ x ∈ nms B, val0 Qp x = val0 Qp' x) (hc : ∀ x ∈ nms B, val0 Qc x = val0 Qc' x) :
    waterOf B P Qp Qc z = waterOf B' P' Qp' Qc' z := by
  unfold waterOf
  rw [hp z hz, hc z hz, val0_perm pB nd z]
  have e1 : ((insOf P z).map fun p => p.2 * val0 Qc p.1) = (insOf P z).map fun p => p.2 * val0 Qc' p.1 := List.map_congr_left fun p h => by
    rw [hc p.1 (rp _ (insOf_mem h))]
  have e2 := perm_sum ((insOf_perm pP z).map fun p => p.2 * val0 Qc' p.1)
  rw [e1, e2]
end Nl
end
section
set_option maxHeartbeats 1000000
namespace Nl
open PySem PySem.Spec PyProof.Rows L2 Nt
/-! ### sorted in one way -/
theorem str_ext {x y : Str} (h : x.cps.toList = y.cps.toList) : x = y := by
  cases x with
  | mk a =>
    cases y with
    | mk b =>
      have : a = b := Array.toList_inj.mp h
      rw [this]
theorem rising_pw : ∀ (l : List Str) (p : Str), risingS p l = true → (p :: l).Pairwise (fun a b => a.cps.toList ≤ b.cps.toList)
  | [], p, _ => List.pairwise_singleton _ _
  | x :: r, p, h => by
    have h' : (!ltCps x.cps.toList p.cps.toList && risingS x r) = true := h
    obtain ⟨h1, h2⟩ := Bool.and_eq_true_iff.mp h'
    have ih := rising_pw r x h2
    rw [ltCps_eq] at h1
    have hpx : p.cps.toList ≤ x.cps.toList := fun z => by
      rw [decide_eq_true z] at h1; cases h1
    refine List.pairwise_cons.mpr ⟨fun y hy => ?_, ih⟩
    rcases List.mem_cons.mp hy with rfl | hy
    · exact hpx
    · exact List.le_trans hpx ((List.pairwise_cons.mp ih).1 y hy)
theorem sorted_pw {l : List Str} (h : sortedS l = true) : l.Pairwise (fun a b => a.cps.toList ≤ b.cps.toList) := by
  cases l with
  | nil => exact .nil
  | cons x r => exact rising_pw r x h
theorem pw_uniq : ∀ {l m : List Str}, l.Perm m → l.Pairwise (fun a b => a.cps.toList ≤ b.cps.toList) → m.Pairwise (fun a b => a.cps.toList ≤ b.cps.toList) → l = m
  | [], m, pm, _, _ => (List.nil_perm.mp pm).symm
  | x :: r, [], pm, _, _ => absurd pm.length_eq (by simp)
  | x :: r, y :: t, pm, hl, hm => by
    have e : x = y := by
      have h1 : x ∈ y :: t := pm.mem_iff.mp List.mem_cons_self
      have h2 : y ∈ x :: r := pm.mem_iff.mpr List.mem_cons_self
      rcases List.mem_cons.mp h1 with e | h1
      · exact e
      · rcases List.mem_cons.mp h2 with e | h2
        · exact e.symm
        · exact str_ext (List.le_antisymm ((List.pairwise_cons.mp hl).1 y h2) ((List.pairwise_cons.mp hm).1 x h1))
    subst e
    rw [pw_uniq pm.cons_inv (List.pairwise_cons.mp hl).2 (List.pairwise_cons.mp hm).2]
theorem sorted_uniq {l m : List Str} (pm : l.Perm m) (hl : sortedS l = true) (hm : sortedS m = true) : l = m := pw_uniq pm (sorted_pw hl) (sorted_pw hm)
/-! ### a stand, told by the dicts that the law has -/
def mostOf (B : Br) (Pp : Pi) (Qp Qc : Br) (z : Str) : Int := if waterOf B Pp Qp Qc z / val0 B z > 0 then waterOf B Pp Qp Qc z / val0 B z else 0
def soakOf (B : Br) (Pp : Pi) (Qc : Br) : Int := (B.map fun p => (p.2 - outW Pp p.1) * val0 Qc p.1).sum
def StOf (CS C : Addr) (H : Hp) (s : Addr) (B : Br) (Pp : Pi) (Qp Qc : Br) : Prop := ∃ (B' : Br) (P' : Pi) (Qp' Qc' : Br), StandAt CS C H s B' P' Qp' Qc' ∧ Good B' P' ∧ B'.Perm B ∧ P'.Perm Pp ∧ sortedS (nms B') = true ∧ Full B' Qp' ∧ Full B' Qc' ∧
  (∀ x ∈ nms B, val0 Qp' x = val0 Qp x) ∧ (∀ x ∈ nms B, val0 Qc' x = val0 Qc x) ∧ ∀ x ∈ nms B, 0 ≤ val0 Qp x ∧ 0 ≤ val0 Qc x
theorem StOf.same {CS C : Addr} {H H' : Hp} {s : Addr} {B : Br} {Pp : Pi} {Qp Qc : Br} (h : StOf CS C H s B Pp Qp Qc) (sm : Same H H') : StOf CS C H' s B Pp Qp Qc := by
  obtain ⟨B', P', Qp', Qc', a, r⟩ := h
  exact ⟨B', P', Qp', Qc', a.same sm, r⟩
/-- the numbers alone count -/
theorem StOf.alike {CS C : Addr} {H : Hp} {s : Addr} {B : Br} {Pp : Pi} {Qp Qc Qc2 : Br} (h : StOf CS C H s B Pp Qp Qc) (e : ∀ x ∈ nms B, val0 Qc x = val0 Qc2 x) : StOf CS C H s B Pp Qp Qc2 := by
  obtain ⟨B', P', Qp', Qc', a, g, pB, pP, so, f1, f2, v1, v2, nn⟩ := h
  exact ⟨B', P', Qp', Qc', a, g, pB, pP, so, f1, f2, v1, fun x hx => (v2 x hx).trans (e x hx), fun x hx => ⟨(nn x hx).1, by rw [← e x hx]; exact (nn x hx).2⟩⟩
theorem sf_inj {n d1 d2 n' d1' d2' : Addr} (h : sf n d1 d2 = sf n' d1' d2') : n = n' ∧ d1 = d1' ∧ d2 = d2' := by
  have e1 := sf_n n d1 d2
  have e2 := sf_p n d1 d2
  have e3 := sf_c n d1 d2
  rw [h, sf_n] at e1
  rw [h, sf_p] at e2
  rw [h, sf_c] at e3
  cases e1
  cases e2
  cases e3
  exact ⟨rfl, rfl, rfl⟩
theorem nf_inj {d1 d1' : Addr} {d2 d2' : Dd} (h : nf d1 d2 = nf d1' d2') : d1 = d1' ∧ d2 = d2' := by
  have e1 := nf_b d1 d2
  have e2 := nf_w d1 d2
  have e3 := nf_o d1 d2
  have e4 := nf_i d1 d2
  rw [h, nf_b] at e1
  rw [h, nf_w] at e2
  rw [h, nf_o] at e3
  rw [h, nf_i] at e4
  obtain ⟨a, b, c⟩ := d2
  obtain ⟨a', b', c'⟩ := d2'
  cases e1
  cases e2
  cases e3
  cases e4
  exact ⟨rfl, rfl⟩
/-- none of the stand's own dicts is that one -/
def Off (CS C : Addr) (H : Hp) (s a : Addr) : Prop := ∃ dx n d1 d2 dxn e1 e2, H s = some (.ins CS dx (sf n d1 d2)) ∧ H n = some (.ins C dxn (nf e1 e2)) ∧ a ≠ d1 ∧ a ≠ d2 ∧ a ≠ e1 ∧ a ≠ e2.o ∧ a ≠ e2.i
theorem Off.keep {CS C : Addr} {H H' : Hp} {s a : Addr} (h : Off CS C H s a) (k : ∀ x C dx fs, H x = some (.ins C dx fs) → H' x = some (.ins C dx fs)) : Off CS C H' s a := by
  obtain ⟨dx, n, d1, d2, dxn, e1, e2, a1, a2, r⟩ := h
  exact ⟨dx, n, d1, d2, dxn, e1, e2, k _ _ _ _ a1, k _ _ _ _ a2, r⟩
theorem Off.same {CS C : Addr} {H H' : Hp} {s a : Addr} (h : Off CS C H s a) (k : Same H H') : Off CS C H' s a := h.keep fun x _ _ _ e => k x _ e
/-- that one may be anything, and the stand stands -/
theorem StOf.lock {CS C : Addr} {H : Hp} {s a : Addr} {B : Br} {Pp : Pi} {Qp Qc : Br} {u : List (Key × V)} (S : StOf CS C H s B Pp Qp Qc) (f : Off CS C H s a) (ha : H a = some (.dK u)) (x : HO) : StOf CS C (upd H a x) s B Pp Qp Qc ∧ Off CS C (upd H a x) s a := by
  obtain ⟨B', P', Qp', Qc', SA, r⟩ := S
  obtain ⟨dx, n, d1, d2, hs, N, h1, h2⟩ := SA.at_
  obtain ⟨dxn, e1, e2, hn, h3, h4, h5, h6⟩ := N.at_
  obtain ⟨dx', n', d1', d2', dxn', e1', e2', f1, f2, f3, f4, f5, f6, f7⟩ := id f
  rw [hs] at f1
  injection f1 with f1
  injection f1 with _ _ f1
  obtain ⟨rfl, rfl, rfl⟩ := sf_inj f1
  rw [hn] at f2
  injection f2 with f2
  injection f2 with _ _ f2
  obtain ⟨rfl, rfl⟩ := nf_inj f2
  have k : ∀ {y : Addr} {o : HO}, H y = some o → (∀ v, o ≠ .dK v) → (upd H a x) y = some o := fun {y o} e no => by
    have : y ≠ a := fun ey => by
      subst ey
      rw [ha] at e
      exact no u (Option.some.inj e).symm
    rw [upd_ne this]; exact e
  refine ⟨⟨B', P', Qp', Qc', ⟨dx, n, d1, d2, k hs (fun v e => by cases e), ⟨dxn, e1, e2, k hn (fun v e => by cases e), ?_, k h4 (fun v e => by cases e), h5.keep (fun x e => by rw [upd_ne (Ne.symm f6)]; exact e) (fun b oq xs e => k e (fun v e => by cases e)) (fun b xs e => k e (fun v e => by cases e)), h6.keep (fun x e => by rw [upd_ne (Ne.symm f7)]; exact e) (fun b oq xs e => k e (fun v e => by cases e)) (fun b xs e => k e (fun v e => by cases e))⟩, ?_, ?_⟩, r⟩, f.keep fun y _ _ _ e => k e (fun v e => by cases e)⟩
  · rw [upd_ne (Ne.symm f5)]; exact h3
  · rw [upd_ne (Ne.symm f3)]; exact h1
  · rw [upd_ne (Ne.symm f4)]; exact h2
/-! what the six of spills promise, as the law asks it -/
def spMost (CS C : Addr) : Sp := fun vs H Q _ => ∃ (s : Addr) (B : Br) (Pp : Pi) (Qp Qc : Br) (z : Str), vs = [.ref s, .str z] ∧ StOf CS C H s B Pp Qp Qc ∧ Good B Pp ∧ z ∈ nms B ∧ ∀ H', Same H H' → Q (.int (mostOf B Pp Qp Qc z)) H'
def spCan (CS C : Addr) : Sp := fun vs H Q _ => ∃ (s : Addr) (B : Br) (Pp : Pi) (Qp Qc : Br) (z : Str) (t : Int), vs = [.ref s, .str z, .int t] ∧ StOf CS C H s B Pp Qp Qc ∧ Good B Pp ∧ z ∈ nms B ∧ 1 ≤ t ∧ ∀ H', Same H H' → Q (.bl (decide (t ≤ mostOf B Pp Qp Qc z))) H'
def spSpilling (CS C : Addr) : Sp := fun vs H Q _ => ∃ (s : Addr) (B : Br) (Pp : Pi) (Qp Qc : Br), vs = [.ref s] ∧ StOf CS C H s B Pp Qp Qc ∧ Good B Pp ∧
  ∀ (H' : Hp) (r : Addr) (ys : List Str), Same H H' → H r = none → ys.Perm (nms B) → sortedS ys = true → H' r = some (.lst ((ys.filter fun z => decide (mostOf B Pp Qp Qc z > 0)).map V.str)) → Q (.ref r) H'
def spAtRest (CS C : Addr) : Sp := fun vs H Q _ => ∃ (s : Addr) (B : Br) (Pp : Pi) (Qp Qc : Br), vs = [.ref s] ∧ StOf CS C H s B Pp Qp Qc ∧ Good B Pp ∧ ∀ H', Same H H' → Q (.bl (decide (∀ z ∈ nms B, ¬ mostOf B Pp Qp Qc z > 0))) H'
def spSpilled (CS C : Addr) : Sp := fun vs H Q _ => ∃ (s : Addr) (B : Br) (Pp : Pi) (Qp Qc : Br) (z : Str) (t : Int), vs = [.ref s, .str z, .int t] ∧ StOf CS C H s B Pp Qp Qc ∧ Good B Pp ∧ z ∈ nms B ∧ 1 ≤ t ∧ t ≤ mostOf B Pp Qp Qc z ∧
  ∀ (H' : Hp) (r : Addr), Same H H' → H r = none → (∀ Qc2 : Br, (∀ x ∈ nms B, val0 Qc2 x = val0 Qc x + if x = z then t else 0) → StOf CS C H' r B Pp Qp Qc2) → (∀ a, Off CS C H s a → H a ≠ none → Off CS C H' r a) → Q (.ref r) H'
def spSoaked (CS C : Addr) : Sp := fun vs H Q _ => ∃ (s : Addr) (B : Br) (Pp : Pi) (Qp Qc : Br), vs = [.ref s] ∧ StOf CS C H s B Pp Qp Qc ∧ Good B Pp ∧ ∀ H', Same H H' → Q (.int (soakOf B Pp Qc)) H'
end Nl
end
section
set_option maxHeartbeats 4000000
namespace Nl
open PySem PySem.Spec PyProof.Rows L2 Nt
theorem mostOf_nonneg (B : Br) (Pp : Pi) (Qp Qc : Br) (z : Str) : 0 ≤ mostOf B Pp Qp Qc z := by
  unfold mostOf
  split <;> omega
/-- what the pot's turns leave as it is -/
theorem Kp.keep {p x : Addr} {H H' : Hp} {o : HO} (hP : PotAt H p) (k : Kp p H H') (h : H x = some o) (no : ∀ l, o ≠ .lst l) : H' x = some o := by
  obtain ⟨a, b, hp, _⟩ := hP
  refine k x o (fun e => ?_) h
  subst e
  rw [hp] at h
  exact no _ (Option.some.inj h).symm
theorem NetAt.kp {C p n : Addr} {H H' : Hp} {B : Br} {Pp : Pi} (hP : PotAt H p) (k : Kp p H H') (h : NetAt C H n B Pp) : NetAt C H' n B Pp := by
  obtain ⟨dx, d1, d2, a, b, c, e, f⟩ := h
  have sd : ∀ {d : Addr} {g : Str → List (Str × Int)} {l : List Str}, SideAt H d g l → SideAt H' d g l := fun {d g l} S => by
    obtain ⟨ls, e1, _⟩ := id S
    exact S.keep (fun x e => by rw [e1] at e; cases e; exact k.keep hP e1 (fun v e => by cases e)) (fun b oq xs e => k.keep hP e (fun v e => by cases e)) (fun b xs e => k.keep hP e (fun v e => by cases e))
  exact ⟨dx, d1, d2, k.keep hP a (fun l e => by cases e), k.keep hP b (fun l e => by cases e), k.keep hP c (fun l e => by cases e), sd e, sd f⟩
theorem StandAt.kp {CS C p s : Addr} {H H' : Hp} {B : Br} {Pp : Pi} {Qp Qc : Br} (hP : PotAt H p) (k : Kp p H H') (h : StandAt CS C H s B Pp Qp Qc) : StandAt CS C H' s B Pp Qp Qc := by
  obtain ⟨dx, n, d1, d2, a, b, c, d⟩ := h
  exact ⟨dx, n, d1, d2, k.keep hP a (fun l e => by cases e), b.kp hP k, k.keep hP c (fun l e => by cases e), k.keep hP d (fun l e => by cases e)⟩
theorem StOf.kp {CS C p s : Addr} {H H' : Hp} {B : Br} {Pp : Pi} {Qp Qc : Br} (hP : PotAt H p) (k : Kp p H H') (h : StOf CS C H s B Pp Qp Qc) : StOf CS C H' s B Pp Qp Qc := by
  obtain ⟨B', P', Qp', Qc', a, r⟩ := h
  exact ⟨B', P', Qp', Qc', a.kp hP k, r⟩
theorem Kp.free {p x : Addr} {H H' : Hp} (hP : PotAt H' p) (k : Kp p H H') (n : H' x = none) : H x = none := by
  cases e : H x with
  | none => rfl
  | some o =>
    have := k x o (hP.ne n) e
    rw [n] at this; cases this
/-! ### pairs made to a dict -/
theorem paired_of {K : PySem.W.Frag} {H : Hp} : ∀ {as : List Addr} {l : List (Str × Int)}, PairsAt H as l → Paired (fun p (kv : Key × V) => SqT K H p [kV kv.1, kv.2]) as (bk l)
  | [], [], _ => .nil
  | [], x :: l, h => absurd h.1 (by simp)
  | a :: as, [], h => absurd h.1 (by simp)
  | a :: as, x :: l, h => by
    obtain ⟨q, e1, e2⟩ := h.2 0 x rfl
    have e1' : a = q := Option.some.inj e1
    subst e1'
    refine .cons (SqT.of e2) (paired_of ⟨Nat.succ.inj h.1, fun i p e => ?_⟩)
    obtain ⟨q, f1, f2⟩ := h.2 (i + 1) p e
    exact ⟨q, f1, f2⟩
theorem merge_bk : ∀ (l m : Br), (nms (m ++ l)).Nodup → mergeK (bk m) (bk l) = bk (m ++ l)
  | [], m, _ => by rw [List.append_nil]; rfl
  | x :: l, m, nd => by
    have fr : x.1 ∉ nms m := by
      rw [nms_append, List.nodup_append] at nd
      exact fun h => nd.2.2 x.1 h x.1 (by show x.1 ∈ x.1 :: nms l; exact List.mem_cons_self) rfl
    show mergeK (putK (bk m) (Sum.inr x.1) (.int x.2)) (bk l) = _
    rw [putK_bk fr, merge_bk l (m ++ [(x.1, x.2)]) (by rw [List.append_assoc]; exact nd), List.append_assoc]
    rfl
theorem eqv_strs {l : List Str} (h : ∀ z ∈ l, Sm 25 z) : PyData.eqv (.list (l.map PyData.str)) (.list (l.map PyData.str)) = true := SeqAt.eqv_refl _ (SeqAt.canLay_of_shaped (shaped_strs h))
theorem eqv_nil (l : List Str) : PyData.eqv (.list (l.map PyData.str)) (.list []) = l.isEmpty := by
  cases l <;> simp [PyData.eqv, PyData.eqvAll]
theorem shaped_nil : SeqAt.shaped (.list []) = true := by simp [SeqAt.shaped, PyData.canLay0, PyData.canLayAll0, PyData.depth, PyData.depthAll]
theorem all_trues : ∀ n : Nat, (List.replicate n true).all id = true
  | 0 => rfl
  | n + 1 => by rw [List.replicate_succ]; simp [all_trues n]
/-- all that is no list stays -/
def NL (H H' : Hp) : Prop := ∀ x o, H x = some o → (∀ q, o ≠ .lst q) → H' x = some o
theorem NL.trans {H H1 H2 : Hp} (a : NL H H1) (b : NL H1 H2) : NL H H2 := fun x o e n => b x o (a x o e n) n
theorem NL.of_same {H H' : Hp} (s : Same H H') : NL H H' := fun x o e _ => s x o e
theorem NL.of_kp {p : Addr} {H H' : Hp} (hP : PotAt H p) (k : Kp p H H') : NL H H' := fun x o e n => k.keep hP e n
theorem NL.lst {H : Hp} {l : Addr} {xs ys : List V} (h : H l = some (.lst xs)) : NL H (upd H l (.lst ys)) := fun x o e n => by
  have nx : x ≠ l := fun z => by subst z; rw [h] at e; exact n _ (Option.some.inj e).symm
  rw [upd_ne nx]; exact e
theorem NetAt.nl {C n : Addr} {H H' : Hp} {B : Br} {Pp : Pi} (k : NL H H') (h : NetAt C H n B Pp) : NetAt C H' n B Pp := by
  obtain ⟨dx, d1, d2, a, b, c, e, f⟩ := h
  have sd : ∀ {d : Addr} {g : Str → List (Str × Int)} {l : List Str}, SideAt H d g l → SideAt H' d g l := fun {d g l} S => by
    obtain ⟨ls, e1, _⟩ := id S
    exact S.keep (fun x e => by rw [e1] at e; cases e; exact k _ _ e1 (fun v e => by cases e)) (fun b oq xs e => k _ _ e (fun v e => by cases e)) (fun b xs e => k _ _ e (fun v e => by cases e))
  exact ⟨dx, d1, d2, k _ _ a (fun l e => by cases e), k _ _ b (fun l e => by cases e), k _ _ c (fun l e => by cases e), sd e, sd f⟩
theorem StOf.nl {CS C s : Addr} {H H' : Hp} {B : Br} {Pp : Pi} {Qp Qc : Br} (k : NL H H') (h : StOf CS C H s B Pp Qp Qc) : StOf CS C H' s B Pp Qp Qc := by
  obtain ⟨B', P', Qp', Qc', ⟨dx, n, d1, d2, a, b, c, d⟩, r⟩ := h
  exact ⟨B', P', Qp', Qc', ⟨dx, n, d1, d2, k _ _ a (fun l e => by cases e), b.nl k, k _ _ c (fun l e => by cases e), k _ _ d (fun l e => by cases e)⟩, r⟩
theorem NL.dk {H H' : Hp} {x : Addr} {u : List (Key × V)} (k : NL H H') (h : H x = some (.dK u)) : H' x = some (.dK u) := k _ _ h fun l e => by cases e
theorem NL.dt {H H' : Hp} {x : Addr} {u : List (List Key × V)} (k : NL H H') (h : H x = some (.dT u)) : H' x = some (.dT u) := k _ _ h fun l e => by cases e
/-- the stands that came ahead, with their counts -/
def Ah (CS C a : Addr) (B : Br) (Pp : Pi) (Qp : Br) (H : Hp) (ts : List Addr) : Prop := ∀ t ∈ ts, ∃ (s d : Addr) (Qc : Br), H t = some (.tup [.ref s, .ref d]) ∧ H d = some (.dK (bk Qc)) ∧ a ≠ d ∧ StOf CS C H s B Pp Qp Qc
theorem Ah.nl {CS C a : Addr} {B : Br} {Pp : Pi} {Qp : Br} {H H' : Hp} {ts : List Addr} (k : NL H H') (h : Ah CS C a B Pp Qp H ts) : Ah CS C a B Pp Qp H' ts := fun t m => by
  obtain ⟨s, d, Qc, e1, e2, e3, e4⟩ := h t m
  exact ⟨s, d, Qc, k _ _ e1 (fun l e => by cases e), k.dk e2, e3, e4.nl k⟩
/-! ### one number put into a dict -/
def putB (Q : Br) (z : Str) (v : Int) : Br := if z ∈ nms Q then Q.map (fun p => if p.1 = z then (p.1, v) else p) else Q ++ [(z, v)]
theorem putK_putB (Q : Br) (z : Str) (v : Int) : putK (bk Q) (Sum.inr z : Key) (.int v) = bk (putB Q z v) := by
  unfold putB
  by_cases h : z ∈ nms Q
  · rw [if_pos h]
    unfold putK
    have ha : ((bk Q).any fun kv => decide (kv.1 = (Sum.inr z : Key))) = true := by
      obtain ⟨p, hp, e⟩ := List.mem_map.mp h
      exact List.any_eq_true.mpr ⟨(Sum.inr p.1, .int p.2), List.mem_map.mpr ⟨p, hp, rfl⟩, decide_eq_true (by rw [show p.1 = z from e])⟩
    rw [if_pos ha]
    unfold bk
    rw [List.map_map, List.map_map]
    refine List.map_congr_left fun p _ => ?_
    show (if (Sum.inr p.1 : Key) = Sum.inr z then ((Sum.inr p.1 : Key), V.int v) else (Sum.inr p.1, V.int p.2)) = ((Sum.inr (if p.1 = z then (p.1, v) else p).1 : Key), V.int (if p.1 = z then (p.1, v) else p).2)
    by_cases e : p.1 = z
    · rw [if_pos (by rw [e]), if_pos e]
    · rw [if_neg (fun x => e (Sum.inr.inj x)), if_neg e]
  · rw [if_neg h, putK_bk h]
theorem putB_nms (Q : Br) (z : Str) (v : Int) : nms (putB Q z v) = if z ∈ nms Q then nms Q else nms Q ++ [z] := by
  unfold putB
  by_cases h : z ∈ nms Q
  · rw [if_pos h, if_pos h]
    unfold nms
    rw [List.map_map]
    refine List.map_congr_left fun p _ => ?_
    show (if p.1 = z then (p.1, v) else p).1 = p.1
    split <;> rfl
  · rw [if_neg h, if_neg h, nms_append]; rfl
theorem putB_nd {Q : Br} {z : Str} {v : Int} (nd : (nms Q).Nodup) : (nms (putB Q z v)).Nodup := by
  rw [putB_nms]
  by_cases h : z ∈ nms Q
  · rw [if_pos h]; exact nd
  · rw [if_neg h]
    exact List.nodup_append.mpr ⟨nd, by simp, fun x hx y hy e => by
      have e2 : y = z := by simpa using hy
      exact h (by rw [← e2, ← e]; exact hx)⟩
theorem putB_val (Q : Br) (z : Str) (v : Int) (x : Str) : val0 (putB Q z v) x = if x = z then v else val0 Q x := by
  have h := valV_put (bk Q) (Sum.inr z : Key) (Sum.inr x) (.int v)
  rw [putK_putB, valV_bk, valV_bk] at h
  unfold val0
  by_cases e : x = z
  · rw [if_pos e]
    rw [if_pos (by rw [e])] at h
    cases g : getB (putB Q z v) x with
    | none => rw [g] at h; cases h
    | some c =>
      rw [g] at h
      have := Option.some.inj h
      injection this
  · rw [if_neg e]
    rw [if_neg (fun y => e (Sum.inr.inj y))] at h
    cases g : getB (putB Q z v) x with
    | none =>
      rw [g] at h
      cases g2 : getB Q x with
      | none => rfl
      | some c => rw [g2] at h; cases h
    | some c =>
      rw [g] at h
      cases g2 : getB Q x with
      | none => rw [g2] at h; cases h
      | some c2 =>
        rw [g2] at h
        have h2 : V.int c = V.int c2 := Option.some.inj h
        injection h2 with h3
theorem val0_nonneg {Q : Br} (h : ∀ p ∈ Q, 0 ≤ p.2) (x : Str) : 0 ≤ val0 Q x := by
  unfold val0
  cases g : getB Q x with
  | none => exact Int.le_refl _
  | some c => exact h _ (getB_mem g)
/-- what Stand makes of a net and two tables -/
theorem stOf_new {CS C : Addr} {H : Hp} {s : Addr} {B B' : Br} {Pp P' : Pi} {Qp Qc : Br} (SA : StandAt CS C H s B' P' (fill B' Qp) (fill B' Qc)) (good : Good B Pp) (pB : B'.Perm B) (pP : P'.Perm Pp) (so : sortedS (nms B') = true) (np : ∀ p ∈ Qp, 0 ≤ p.2) (nc : ∀ p ∈ Qc, 0 ≤ p.2) :
    StOf CS C H s B Pp Qp Qc := by
  have g' : Good B' P' := good.perm pB.symm pP.symm
  have pm : (nms B').Perm (nms B) := pB.map Prod.fst
  exact ⟨B', P', _, _, SA, g', pB, pP, so, fill_full _ _, fill_full _ _, fun x hx => val0_fill g'.wf.nb (pm.mem_iff.mpr hx), fun x hx => val0_fill g'.wf.nb (pm.mem_iff.mpr hx), fun x _ => ⟨val0_nonneg np x, val0_nonneg nc x⟩⟩
end Nl
end
section
set_option maxHeartbeats 1000000
namespace Nl
open PySem PySem.Spec PyProof.Rows L2 Nt
section
variable {B B' : Br} {Pp P' : Pi} {Qp Qc Qp' Qc' : Br}
theorem water_same (g' : Good B' P') (pB : B'.Perm B) (pP : P'.Perm Pp) (v1 : ∀ x ∈ nms B, val0 Qp' x = val0 Qp x) (v2 : ∀ x ∈ nms B, val0 Qc' x = val0 Qc x) {z : Str} (mz : z ∈ nms B) : waterOf B' P' Qp' Qc' z = waterOf B Pp Qp Qc z := by
  have pm : (nms B').Perm (nms B) := pB.map Prod.fst
  exact waterOf_same pB g'.wf.nb pP (pm.mem_iff.mpr mz) (fun r hr => (g'.wf.rp r hr).1) (fun x hx => v1 x (pm.mem_iff.mp hx)) fun x hx => v2 x (pm.mem_iff.mp hx)
theorem most_same (g' : Good B' P') (pB : B'.Perm B) (pP : P'.Perm Pp) (v1 : ∀ x ∈ nms B, val0 Qp' x = val0 Qp x) (v2 : ∀ x ∈ nms B, val0 Qc' x = val0 Qc x) {z : Str} (mz : z ∈ nms B) : mostOf B' P' Qp' Qc' z = mostOf B Pp Qp Qc z := by
  unfold mostOf
  rw [water_same g' pB pP v1 v2 mz, val0_perm pB g'.wf.nb z]
theorem soak_same (pB : B'.Perm B) (pP : P'.Perm Pp) (v2 : ∀ x ∈ nms B, val0 Qc' x = val0 Qc x) : soakOf B' P' Qc' = soakOf B Pp Qc := by
  unfold soakOf
  rw [perm_sum (pB.map fun p => (p.2 - outW P' p.1) * val0 Qc' p.1)]
  congr 1
  refine List.map_congr_left fun p hp => ?_
  rw [outW_perm pP, v2 p.1 (List.mem_map.mpr ⟨p, hp, rfl⟩)]
end
/-- a stand made anew of a stand's own net and what's poured, one count more often -/
theorem stOf_next {CS C : Addr} {H : Hp} {s : Addr} {B B' : Br} {Pp P' : Pi} {Qp Qc Qp' Qc' Qd Qe Qc2 : Br} {z : Str} {t : Int} (SA : StandAt CS C H s B' P' (fill B' Qd) (fill B' Qe)) (g' : Good B' P') (pB : B'.Perm B) (pP : P'.Perm Pp) (so : sortedS (nms B') = true)
    (v1 : ∀ x ∈ nms B, val0 Qp' x = val0 Qp x) (v2 : ∀ x ∈ nms B, val0 Qc' x = val0 Qc x) (nn : ∀ x ∈ nms B, 0 ≤ val0 Qp x ∧ 0 ≤ val0 Qc x) (t0 : 0 ≤ t)
    (vd : ∀ x ∈ nms B, val0 Qd x = val0 Qp' x) (ve : ∀ x ∈ nms B, val0 Qe x = val0 Qc' x + if x = z then t else 0) (h2 : ∀ x ∈ nms B, val0 Qc2 x = val0 Qc x + if x = z then t else 0) : StOf CS C H s B Pp Qp Qc2 := by
  have pm : (nms B').Perm (nms B) := pB.map Prod.fst
  refine ⟨B', P', _, _, SA, g', pB, pP, so, fill_full _ _, fill_full _ _, fun x hx => ?_, fun x hx => ?_, fun x hx => ⟨(nn x hx).1, ?_⟩⟩
  · rw [val0_fill g'.wf.nb (pm.mem_iff.mpr hx), vd x hx, v1 x hx]
  · rw [val0_fill g'.wf.nb (pm.mem_iff.mpr hx), ve x hx, h2 x hx, v2 x hx]
  · rw [h2 x hx]
    have := (nn x hx).2
    split <;> omega
end Nl
end
section
set_option maxHeartbeats 1000000
namespace Nl
open PySem PySem.Spec PyProof.Rows L2 Nt
/-! ### sums over the ponds -/
theorem sum_add2 {α : Type} (g h : α → Int) : ∀ l : List α, (l.map fun z => g z + h z).sum = (l.map g).sum + (l.map h).sum
  | [] => rfl
  | x :: r => by
    have := sum_add2 g h r
    simp only [List.map_cons, List.sum_cons]
    omega
theorem sum_sub2 {α : Type} (g h : α → Int) : ∀ l : List α, (l.map fun z => g z - h z).sum = (l.map g).sum - (l.map h).sum
  | [] => rfl
  | x :: r => by
    have := sum_sub2 g h r
    simp only [List.map_cons, List.sum_cons]
    omega
theorem sum_zero {α : Type} {g : α → Int} : ∀ {l : List α}, (∀ x ∈ l, g x = 0) → (l.map g).sum = 0
  | [], _ => rfl
  | x :: r, h => by
    rw [List.map_cons, List.sum_cons, h x List.mem_cons_self, sum_zero fun y hy => h y (List.mem_cons_of_mem _ hy)]; rfl
theorem sum_mul {α : Type} (g : α → Int) (c : Int) : ∀ l : List α, (l.map fun z => g z * c).sum = (l.map g).sum * c
  | [] => by simp
  | x :: r => by
    simp only [List.map_cons, List.sum_cons]
    rw [sum_mul g c r, Int.add_mul]
theorem sum_one {x : Str} {c : Int} : ∀ {l : List Str}, l.Nodup → x ∈ l → (l.map fun z => if x = z then c else 0).sum = c
  | [], _, h => (List.not_mem_nil h).elim
  | y :: r, nd, h => by
    obtain ⟨h1, h2⟩ := List.nodup_cons.mp nd
    rw [List.map_cons, List.sum_cons]
    by_cases e : x = y
    · subst e
      rw [if_pos rfl, sum_zero fun z hz => if_neg fun e => h1 (by rw [e]; exact hz)]
      omega
    · rw [if_neg e, sum_one h2 ((List.mem_cons.mp h).resolve_left e)]
      omega
/-- all pairs by one end -/
theorem sum_by {l : List Str} (nd : l.Nodup) (k : (Str × Str) × Int → Str) (f : (Str × Str) × Int → Int) : ∀ {P : Pi}, (∀ p ∈ P, k p ∈ l) → (l.map fun z => ((P.filter fun p => decide (k p = z)).map f).sum).sum = (P.map f).sum
  | [], _ => sum_zero fun _ _ => rfl
  | p :: r, h => by
    have ih := sum_by nd k f (P := r) fun q hq => h q (List.mem_cons_of_mem _ hq)
    have e : (fun z => (((p :: r).filter fun p => decide (k p = z)).map f).sum) = fun z => (if k p = z then f p else 0) + ((r.filter fun p => decide (k p = z)).map f).sum := by
      funext z
      rw [List.filter_cons]
      by_cases c : k p = z
      · rw [if_pos (decide_eq_true c), if_pos c, List.map_cons, List.sum_cons]
      · rw [if_neg (by simpa using c), if_neg c]
        omega
    rw [e, sum_add2, sum_one nd (h p List.mem_cons_self), ih, List.map_cons, List.sum_cons]
theorem val0_cons (p : Str × Int) (r : Br) (z : Str) : val0 (p :: r) z = if p.1 = z then p.2 else val0 r z := by
  unfold val0 getB
  rw [List.find?_cons]
  by_cases e : p.1 = z
  · rw [decide_eq_true e, if_pos e]; rfl
  · rw [decide_eq_false e, if_neg e]
theorem val0_out {Q : Br} {z : Str} (h : z ∉ nms Q) : val0 Q z = 0 := by
  unfold val0
  rw [getB_none h]; rfl
/-- all that a table has, by the ponds -/
theorem sum_tab {l : List Str} (nd : l.Nodup) : ∀ {Q : Br}, (nms Q).Nodup → (∀ p ∈ Q, p.1 ∈ l) → (l.map (val0 Q)).sum = (Q.map (·.2)).sum
  | [], _, _ => sum_zero fun _ _ => rfl
  | p :: r, ndQ, h => by
    obtain ⟨n1, n2⟩ := List.nodup_cons.mp (show (p.1 :: nms r).Nodup from ndQ)
    have e : val0 (p :: r) = fun z => (if p.1 = z then p.2 else 0) + val0 r z := by
      funext z
      rw [val0_cons]
      by_cases c : p.1 = z
      · rw [if_pos c, if_pos c, ← c, val0_out n1]; omega
      · rw [if_neg c, if_neg c]; omega
    rw [e, sum_add2, sum_one nd (h p List.mem_cons_self), sum_tab nd n2 fun q hq => h q (List.mem_cons_of_mem _ hq), List.map_cons, List.sum_cons]
def flowIn (Pp : Pi) (Qc : Br) (z : Str) : Int := ((Pp.filter fun p => decide (p.1.2 = z)).map fun p => p.2 * val0 Qc p.1.1).sum
theorem water_flow (B : Br) (Pp : Pi) (Qp Qc : Br) (z : Str) : waterOf B Pp Qp Qc z = val0 Qp z + flowIn Pp Qc z - val0 B z * val0 Qc z := by
  unfold waterOf flowIn insOf
  rw [List.map_map]; rfl
theorem soak_nms {B : Br} {Pp : Pi} {Qc : Br} (nd : (nms B).Nodup) : soakOf B Pp Qc = ((nms B).map fun z => (val0 B z - outW Pp z) * val0 Qc z).sum := by
  unfold soakOf nms
  rw [List.map_map]
  congr 1
  refine List.map_congr_left fun p hp => ?_
  show _ = (val0 B p.1 - _) * _
  rw [val0_of_mem nd (show (p.1, p.2) ∈ B from hp)]
theorem out_flow (Pp : Pi) (Qc : Br) (z : Str) : outW Pp z * val0 Qc z = ((Pp.filter fun p => decide (p.1.1 = z)).map fun p => p.2 * val0 Qc p.1.1).sum := by
  unfold outW sumOf
  rw [← sum_mul]
  congr 1
  refine List.map_congr_left fun p hp => ?_
  have := of_decide_eq_true (List.mem_filter.mp hp).2
  rw [← this]
/-- nothing is lost -/
theorem all_waters {B : Br} {Pp : Pi} (good : Good B Pp) (Qp Qc : Br) : ((nms B).map (val0 Qp)).sum = ((nms B).map (waterOf B Pp Qp Qc)).sum + soakOf B Pp Qc := by
  have nd := good.wf.nb
  have e1 : waterOf B Pp Qp Qc = fun z => val0 Qp z + flowIn Pp Qc z - val0 B z * val0 Qc z := funext fun z => water_flow B Pp Qp Qc z
  have e2 : (fun z => (val0 B z - outW Pp z) * val0 Qc z) = fun z => val0 B z * val0 Qc z - outW Pp z * val0 Qc z := funext fun z => Int.sub_mul _ _ _
  rw [soak_nms nd, e1, e2, sum_sub2, sum_sub2, sum_add2]
  have f1 : ((nms B).map fun z => flowIn Pp Qc z).sum = (Pp.map fun p => p.2 * val0 Qc p.1.1).sum := sum_by nd (fun p => p.1.2) _ fun p hp => (good.wf.rp p hp).2.1
  have f2 : ((nms B).map fun z => outW Pp z * val0 Qc z).sum = (Pp.map fun p => p.2 * val0 Qc p.1.1).sum := by
    rw [show (fun z => outW Pp z * val0 Qc z) = fun z => ((Pp.filter fun p => decide (p.1.1 = z)).map fun p => p.2 * val0 Qc p.1.1).sum from funext fun z => out_flow Pp Qc z]
    exact sum_by nd (fun p => p.1.1) _ fun p hp => (good.wf.rp p hp).1
  rw [f1, f2]
  omega
/-! ### one pond's spills -/
def wOf (Pp : Pi) (q : Str × Str) : Int := (getP Pp q).getD 0
theorem wOf_cons (p : (Str × Str) × Int) (r : Pi) (q : Str × Str) : wOf (p :: r) q = if p.1 = q then p.2 else wOf r q := by
  unfold wOf getP
  rw [List.find?_cons]
  by_cases e : p.1 = q
  · rw [decide_eq_true e, if_pos e]; rfl
  · rw [decide_eq_false e, if_neg e]
theorem flow_more {z o : Str} {t : Int} : ∀ {P : Pi}, (P.map Prod.fst).Nodup → ((P.filter fun p => decide (p.1.2 = o)).map fun p => p.2 * if p.1.1 = z then t else 0).sum = wOf P (z, o) * t
  | [], _ => by simp [wOf, getP]
  | p :: r, nd => by
    obtain ⟨n1, n2⟩ := List.nodup_cons.mp (show (p.1 :: r.map Prod.fst).Nodup from nd)
    have ih := flow_more (z := z) (o := o) (t := t) n2
    rw [wOf_cons, List.filter_cons]
    by_cases e : p.1 = (z, o)
    · have e1 : p.1.1 = z := by rw [e]
      have e2 : p.1.2 = o := by rw [e]
      have w0 : wOf r (z, o) = 0 := by
        unfold wOf
        rw [getP_none (by rw [← e]; exact n1)]; rfl
      rw [if_pos (decide_eq_true e2), if_pos e, List.map_cons, List.sum_cons, ih, w0, if_pos e1]
      omega
    · rw [if_neg e, ← ih]
      by_cases e2 : p.1.2 = o
      · have e1 : p.1.1 ≠ z := fun h => e (Prod.ext h e2)
        rw [if_pos (decide_eq_true e2), List.map_cons, List.sum_cons, if_neg e1]
        omega
      · rw [if_neg (by simpa using e2)]
theorem water_next {B : Br} {Pp : Pi} {Qp Qc Qc2 : Br} (good : Good B Pp) {z o : Str} {t : Int} (mo : o ∈ nms B) (h : ∀ x ∈ nms B, val0 Qc2 x = val0 Qc x + if x = z then t else 0) :
    waterOf B Pp Qp Qc2 o = waterOf B Pp Qp Qc o + wOf Pp (z, o) * t - val0 B z * t * if z = o then 1 else 0 := by
  rw [water_flow, water_flow, h o mo]
  have e : flowIn Pp Qc2 o = flowIn Pp Qc o + wOf Pp (z, o) * t := by
    unfold flowIn
    rw [← flow_more good.wf.np, ← sum_add2]
    congr 1
    refine List.map_congr_left fun p hp => ?_
    rw [h p.1.1 (good.wf.rp p (List.mem_filter.mp hp).1).1, Int.mul_add]
  rw [e, Int.mul_add]
  by_cases c : o = z
  · rw [if_pos c, if_pos c.symm, c]; omega
  · rw [if_neg c, if_neg (Ne.symm c)]; omega
theorem soak_next {B : Br} {Pp : Pi} {Qc Qc2 : Br} (good : Good B Pp) {z : Str} {t : Int} (mz : z ∈ nms B) (h : ∀ x ∈ nms B, val0 Qc2 x = val0 Qc x + if x = z then t else 0) : soakOf B Pp Qc2 = soakOf B Pp Qc + (val0 B z - outW Pp z) * t := by
  rw [soak_nms good.wf.nb, soak_nms good.wf.nb]
  have e : ((nms B).map fun x => (val0 B x - outW Pp x) * val0 Qc2 x) = (nms B).map fun x => (val0 B x - outW Pp x) * val0 Qc x + if z = x then (val0 B z - outW Pp z) * t else 0 := List.map_congr_left fun x hx => by
    rw [h x hx, Int.mul_add]
    by_cases c : x = z
    · rw [if_pos c, if_pos c.symm, c]
    · rw [if_neg c, if_neg (Ne.symm c)]; omega
  rw [e, sum_add2, sum_one good.wf.nb mz]
theorem lost_next {B : Br} {Pp : Pi} {Qp Qc Qc2 : Br} (good : Good B Pp) {z : Str} {t : Int} (mz : z ∈ nms B) (h : ∀ x ∈ nms B, val0 Qc2 x = val0 Qc x + if x = z then t else 0) :
    ((nms B).map (waterOf B Pp Qp Qc)).sum - ((nms B).map (waterOf B Pp Qp Qc2)).sum = (val0 B z - outW Pp z) * t := by
  have e1 := all_waters good Qp Qc
  have e2 := all_waters good Qp Qc2
  have e3 := soak_next good mz h
  omega
end Nl
end
section
set_option maxHeartbeats 2000000
namespace Nl
open PySem PySem.Spec PyProof.Rows L2 Nt
/-! ### a stand's answers, by the dicts that the law has -/
section
variable {CS C : Addr} {H : Hp} {s : Addr} {B : Br} {Pp : Pi} {Qp Qc : Br} {z : Str} {Q : VK} {E : XK}
theorem StOf.ins (S : StOf CS C H s B Pp Qp Qc) : ∃ dx n d1 d2, H s = some (.ins CS dx (sf n d1 d2)) := by
  obtain ⟨B', P', Qp', Qc', SA, r⟩ := S
  obtain ⟨dx, n, d1, d2, hs, _⟩ := SA.at_
  exact ⟨dx, n, d1, d2, hs⟩
theorem StOf.water (S : StOf CS C H s B Pp Qp Qc) (mz : z ∈ nms B) : ∃ B' P' Qp' Qc', StandAt CS C H s B' P' Qp' Qc' ∧ Good B' P' ∧ Full B' Qp' ∧ Full B' Qc' ∧ z ∈ nms B' ∧ waterOf B' P' Qp' Qc' z = waterOf B Pp Qp Qc z := by
  obtain ⟨B', P', Qp', Qc', SA, g', pB, pP, so, fp, fc, v1, v2, nn⟩ := S
  have pm : (nms B').Perm (nms B) := pB.map Prod.fst
  exact ⟨B', P', Qp', Qc', SA, g', fp, fc, pm.mem_iff.mpr mz, water_same g' pB pP v1 v2 mz⟩
theorem StOf.waters (S : StOf CS C H s B Pp Qp Qc) : ∃ B' P' Qp' Qc', StandAt CS C H s B' P' Qp' Qc' ∧ Good B' P' ∧ Full B' Qp' ∧ Full B' Qc' ∧ (nms B').Perm (nms B) ∧ sortedS (nms B') = true ∧ mapN (nms B') (waterOf B' P' Qp' Qc') = mapN (nms B') (waterOf B Pp Qp Qc) := by
  obtain ⟨B', P', Qp', Qc', SA, g', pB, pP, so, fp, fc, v1, v2, nn⟩ := S
  have pm : (nms B').Perm (nms B) := pB.map Prod.fst
  exact ⟨B', P', Qp', Qc', SA, g', fp, fc, pm, so, List.map_congr_left fun z hz => by rw [water_same g' pB pP v1 v2 (pm.mem_iff.mp hz)]⟩
theorem StOf.counts (S : StOf CS C H s B Pp Qp Qc) : ∃ B' P' Qp' Qc', StandAt CS C H s B' P' Qp' Qc' ∧ (nms Qc').Nodup ∧ Qc'.length ≤ 12 ∧ (nms B').Perm (nms B) ∧ sortedS (nms B') = true ∧ Qc' = mapN (nms B') (val0 Qc) := by
  obtain ⟨B', P', Qp', Qc', SA, g', pB, pP, so, fp, fc, v1, v2, nn⟩ := S
  have pm : (nms B').Perm (nms B) := pB.map Prod.fst
  have nd : (nms Qc').Nodup := by rw [fc.nm]; exact g'.wf.nb
  have ln : Qc'.length ≤ 12 := by
    have : (nms Qc').length = (nms B').length := by rw [fc.nm]
    rw [nms_len, nms_len] at this
    have := g'.wf.lb
    omega
  refine ⟨B', P', Qp', Qc', SA, nd, ln, pm, so, ?_⟩
  rw [← fc.nm]
  unfold mapN nms
  rw [List.map_map]
  conv => lhs; rw [← List.map_id Qc']
  refine List.map_congr_left fun u hu => ?_
  have mu : u.1 ∈ nms B := pm.mem_iff.mp (by rw [← fc.nm]; exact List.mem_map.mpr ⟨u, hu, rfl⟩)
  show u = (u.1, val0 Qc u.1)
  rw [← v2 u.1 mu, val0_of_mem nd (show (u.1, u.2) ∈ Qc' from hu)]
end
/-! ### [E for one in dict] -/
theorem keys_lc {B : Br} {a : Addr} {H : Hp} {σ : L2.St} {te : TE} {ja jv : Nat} {Q : V → Hp → Prop} (val : Str × Int → V) (lb : B.length ≤ 200) (ha : H a = some (.dK (bk B))) (hja : σ[ja]? = some (some (.ref a)))
    (hw : ∀ z : Str, wipe ((wipe σ [jv]).set jv (some (.str z))) [jv] = wipe σ [jv])
    (ht : ∀ (p : Str × Int) (od : Obj) (H2 : Hp) (R : V → Hp → Prop), p ∈ B → Same (upd H a (.frz od (.dK (bk B)))) H2 → (∀ H3, Same H2 H3 → R (val p) H3) → te ((wipe σ [jv]).set jv (some (.str p.1))) H2 R)
    (q : ∀ D H', Same H H' → H D = none → H' D = some (.lst (B.map val)) → Q (.ref D) H') : tLockE (tLc (iKeys (tVar ja)) (gName jv) tYes te [jv]) σ H Q := by
  refine ⟨a, _, ha, trivial, fun od => ?_⟩
  refine ⟨.ref a, hja, a, od, rfl, .inl ⟨_, upd_same, fun D nD => ?_⟩⟩
  have hD0 : D ≠ a := fun e => by subst e; rw [upd_same] at nD; cases nD
  have nDH : H D = none := by rw [upd_ne hD0] at nD; exact nD
  refine lc_it (n := (bk B).length) walk_keys (fun i H1 => H1 D = some (.lst ((B.take i).map val)) ∧ Same (upd H a (.frz od (.dK (bk B)))) H1) ⟨upd_same, same_new nD⟩ (fun i H1 _ h => h.2 a _ upd_same) ?_ ?_
  · rintro i x H1 H2 hi ⟨hD, sm⟩ ⟨rfl, kk, v, hkv, rfl⟩
    obtain ⟨p, hp, rfl, rfl⟩ := bk_at hkv
    have hm : p ∈ B := List.mem_of_getElem? hp
    refine ⟨hw p.1, ht p od H2 _ hm sm fun H3 s3 => ⟨_, s3 D _ hD, ?_, ?_, ?_⟩⟩
    · rw [List.length_map, List.length_take]
      exact small1000 (by omega)
    · rw [upd_same, List.take_add_one, hp, List.map_append]; rfl
    · exact fun b o eb => by
        have nb : b ≠ D := ne_of_none eb nD
        rw [upd_ne nb]; exact s3 b o (sm b o eb)
  · rintro H1 ⟨hD, sm⟩
    obtain ⟨l1, l2⟩ := same_lock ha sm
    refine ⟨l1, q D _ l2 nDH ?_⟩
    rw [upd_ne hD0, hD, bk_len, List.take_length]
/-- what isn't that one is as it was -/
theorem same_off {H H2 : Hp} {a x : Addr} {o u : HO} (sm : Same (upd H a u) H2) (n : x ≠ a) (h : H x = some o) : H2 x = some o := sm x o (by rw [upd_ne n]; exact h)
end Nl
end
section
set_option maxHeartbeats 1000000
namespace Nl
open PySem PySem.Spec PyProof.Rows L2 Nt
section
variable {B : Br} {Pp : Pi} {Qp Qc Qd : Br} {z o : Str} {t i j : Int}
theorem wOf_nonneg (wf : Wf Nm B Pp) (q : Str × Str) : 0 ≤ wOf Pp q := by
  unfold wOf getP
  cases e : Pp.find? fun p => decide (p.1 = q) with
  | none => exact Int.le_refl _
  | some p =>
    have := (wf.rp p (List.mem_of_find?_eq_some e)).2.2.2
    show 0 ≤ p.2
    omega
theorem wOf_self (wf : Wf Nm B Pp) (x : Str) : wOf Pp (x, x) = 0 := by
  unfold wOf
  rw [getP_none fun h => ?_]
  · rfl
  · obtain ⟨p, hp, e⟩ := List.mem_map.mp h
    have := (wf.rp p hp).2.2.1
    rw [show p.1 = (x, x) from e] at this
    exact this rfl
theorem brim_pos (wf : Wf Nm B Pp) (mz : z ∈ nms B) : 1 ≤ val0 B z ∧ val0 B z ≤ 60 := by
  obtain ⟨b, g⟩ := getB_some mz
  have := (wf.rb _ (getB_mem g)).2
  unfold val0
  rw [g]; exact this
/-- counts, told as two ponds' spills more -/
def More2 (B : Br) (Qc Qd : Br) (z o : Str) (i j : Int) : Prop := ∀ x ∈ nms B, val0 Qd x = val0 Qc x + (if x = z then i else 0) + if x = o then j else 0
theorem water_more2 (good : Good B Pp) (zo : z ≠ o) (mz : z ∈ nms B) (h : More2 B Qc Qd z o i j) : waterOf B Pp Qp Qd z = waterOf B Pp Qp Qc z - val0 B z * i + wOf Pp (o, z) * j := by
  have h1 : ∀ x ∈ nms B, val0 (putB Qc z (val0 Qc z + i)) x = val0 Qc x + if x = z then i else 0 := fun x hx => by
    rw [putB_val]
    by_cases e : x = z
    · rw [if_pos e, if_pos e, e]
    · rw [if_neg e, if_neg e]; omega
  have h2 : ∀ x ∈ nms B, val0 Qd x = val0 (putB Qc z (val0 Qc z + i)) x + if x = o then j else 0 := fun x hx => by
    rw [h x hx, h1 x hx]
  rw [water_next good mz h2, water_next good mz h1, wOf_self good.wf, if_pos rfl, if_neg (Ne.symm zo)]
  omega
theorem ediv_add {a b i : Int} (hb : 0 < b) : (a - b * i) / b = a / b - i := by
  rw [show a - b * i = a + b * (-i) by rw [Int.mul_neg]; omega, Int.add_mul_ediv_left _ _ (by omega)]
  omega
/-- a pond that spilled i times can spill at least so many times less -/
theorem most_ge (good : Good B Pp) (zo : z ≠ o) (mz : z ∈ nms B) (i0 : 0 ≤ i) (j0 : 0 ≤ j) (h : More2 B Qc Qd z o i j) (hi : i ≤ mostOf B Pp Qp Qc z) : mostOf B Pp Qp Qc z - i ≤ mostOf B Pp Qp Qd z := by
  obtain ⟨b1, b2⟩ := brim_pos good.wf mz
  have e := water_more2 (Qp := Qp) good zo mz h
  have w0 := Int.mul_nonneg (wOf_nonneg good.wf (o, z)) j0
  have d1 : (waterOf B Pp Qp Qc z - val0 B z * i) / val0 B z ≤ waterOf B Pp Qp Qd z / val0 B z := Int.ediv_le_ediv (by omega) (by omega)
  rw [ediv_add (by omega)] at d1
  unfold mostOf at hi ⊢
  split at hi <;> split <;> split <;> omega
theorem most_self (good : Good B Pp) (mz : z ∈ nms B) (h : ∀ x ∈ nms B, val0 Qd x = val0 Qc x + if x = z then t else 0) (hi : t ≤ mostOf B Pp Qp Qc z) (t0 : 0 ≤ t) : mostOf B Pp Qp Qd z = mostOf B Pp Qp Qc z - t := by
  obtain ⟨b1, b2⟩ := brim_pos good.wf mz
  have e := water_next (Qp := Qp) good mz h
  rw [wOf_self good.wf, if_pos rfl] at e
  have e2 : waterOf B Pp Qp Qd z = waterOf B Pp Qp Qc z - val0 B z * t := by omega
  have d1 : waterOf B Pp Qp Qd z / val0 B z = waterOf B Pp Qp Qc z / val0 B z - t := by rw [e2, ediv_add (by omega)]
  unfold mostOf at hi ⊢
  rw [d1]
  split at hi
  · rename_i c
    rw [if_pos c]
    split <;> omega
  · rename_i c
    rw [if_neg c]
    have : t = 0 := by omega
    subst this
    split <;> omega
theorem water_mono (good : Good B Pp) (zo : o ≠ z) (mo : o ∈ nms B) (t0 : 0 ≤ t) (h : ∀ x ∈ nms B, val0 Qd x = val0 Qc x + if x = z then t else 0) : waterOf B Pp Qp Qc o ≤ waterOf B Pp Qp Qd o := by
  rw [water_next good mo h, if_neg (Ne.symm zo)]
  have := Int.mul_nonneg (wOf_nonneg good.wf (z, o)) t0
  omega
theorem most_mono (good : Good B Pp) (zo : o ≠ z) (mo : o ∈ nms B) (t0 : 0 ≤ t) (h : ∀ x ∈ nms B, val0 Qd x = val0 Qc x + if x = z then t else 0) : mostOf B Pp Qp Qc o ≤ mostOf B Pp Qp Qd o := by
  obtain ⟨b1, b2⟩ := brim_pos good.wf mo
  have d1 : waterOf B Pp Qp Qc o / val0 B o ≤ waterOf B Pp Qp Qd o / val0 B o := Int.ediv_le_ediv (by omega) (water_mono good zo mo t0 h)
  unfold mostOf
  split <;> split <;> omega
/-- what may come into a pond -/
theorem flow_le (good : Good B Pp) (mz : z ∈ nms B) {M : Int} (M0 : 0 ≤ M) (hM : ∀ x ∈ nms B, val0 Qc x ≤ M) : flowIn Pp Qc z ≤ 60 * M := by
  have fit := fun p hp => (good.fit p hp).2
  obtain ⟨b, g⟩ := getB_some mz
  have f1 : inW Pp z ≤ b := fit _ (getB_mem g)
  have r : b ≤ 60 := (good.wf.rb _ (getB_mem g)).2.2
  have step : flowIn Pp Qc z ≤ inW Pp z * M := by
    unfold flowIn inW sumOf
    have rp := good.wf.rp
    clear fit f1 g mz good r
    have : ∀ S : Pi, (∀ p ∈ S, p.1.1 ∈ nms B ∧ 1 ≤ p.2) → ((S.filter fun p => decide (p.1.2 = z)).map fun p => p.2 * val0 Qc p.1.1).sum ≤ ((S.filter fun p => decide (p.1.2 = z)).map (·.2)).sum * M := by
      intro S
      induction S with
      | nil => intro _; simp
      | cons p r ih =>
        intro h
        have ih' := ih fun q hq => h q (List.mem_cons_of_mem _ hq)
        obtain ⟨h1, h2⟩ := h p List.mem_cons_self
        rw [List.filter_cons]
        split
        · rw [List.map_cons, List.map_cons, List.sum_cons, List.sum_cons, Int.add_mul]
          have := Int.mul_le_mul_of_nonneg_left (hM p.1.1 h1) (show 0 ≤ p.2 by omega)
          omega
        · exact ih'
    exact this Pp fun p hp => ⟨(rp p hp).1, (rp p hp).2.2.2.1⟩
  have : inW Pp z ≤ 60 := by omega
  have := Int.mul_le_mul_of_nonneg_right this M0
  omega
theorem most_le (good : Good B Pp) (mz : z ∈ nms B) {M N : Int} (M0 : 0 ≤ M) (hM : ∀ x ∈ nms B, 0 ≤ val0 Qc x ∧ val0 Qc x ≤ M) (hN : val0 Qp z ≤ N) (N0 : 0 ≤ N) : mostOf B Pp Qp Qc z ≤ N + 60 * M := by
  obtain ⟨b1, b2⟩ := brim_pos good.wf mz
  have f := flow_le (Qc := Qc) good mz M0 fun x hx => (hM x hx).2
  have w : waterOf B Pp Qp Qc z ≤ N + 60 * M := by
    rw [water_flow]
    have := Int.mul_nonneg (show 0 ≤ val0 B z by omega) (hM z mz).1
    omega
  unfold mostOf
  split
  · rename_i c
    have : waterOf B Pp Qp Qc z / val0 B z ≤ N + 60 * M := by
      refine Int.le_trans (Int.ediv_le_ediv (by omega) w) ?_
      exact Int.ediv_le_self _ (by omega)
    omega
  · omega
theorem most_pos (wf : Wf Nm B Pp) (mz : z ∈ nms B) (h : val0 B z ≤ waterOf B Pp Qp Qc z) : 1 ≤ mostOf B Pp Qp Qc z := by
  obtain ⟨b1, b2⟩ := brim_pos wf mz
  have : 1 ≤ waterOf B Pp Qp Qc z / val0 B z := by
    have := Int.ediv_le_ediv (show 0 < val0 B z by omega) h
    rw [Int.ediv_self (by omega)] at this
    exact this
  unfold mostOf
  rw [if_pos (by omega)]
  exact this
theorem flow_nonneg (wf : Wf Nm B Pp) (h : ∀ x ∈ nms B, 0 ≤ val0 Qc x) : 0 ≤ flowIn Pp Qc z := by
  unfold flowIn
  have : ∀ S : Pi, (∀ p ∈ S, p.1.1 ∈ nms B ∧ 1 ≤ p.2) → 0 ≤ ((S.filter fun p => decide (p.1.2 = z)).map fun p => p.2 * val0 Qc p.1.1).sum := by
    intro S
    induction S with
    | nil => intro _; simp
    | cons p r ih =>
      intro hs
      have ih' := ih fun q hq => hs q (List.mem_cons_of_mem _ hq)
      obtain ⟨h1, h2⟩ := hs p List.mem_cons_self
      rw [List.filter_cons]
      split
      · rw [List.map_cons, List.sum_cons]
        have := Int.mul_nonneg (show 0 ≤ p.2 by omega) (h p.1.1 h1)
        omega
      · exact ih'
  exact this Pp fun p hp => ⟨(wf.rp p hp).1, (wf.rp p hp).2.2.2.1⟩
end
/-- one pond more, without pipes -/
theorem Good.grow {B : Br} {Pp : Pi} {z : Str} {b : Int} (g : Good B Pp) (lb : B.length < 12) (nz : Nm z) (fz : z ∉ nms B) (b1 : 1 ≤ b) (b2 : b ≤ 60) : Good (B ++ [(z, b)]) Pp := by
  have wf := g.wf
  have o0 : outW Pp z = 0 := by
    unfold outW sumOf
    rw [List.filter_eq_nil_iff.mpr fun p hp => by
      have := (wf.rp p hp).1
      simp only [decide_eq_true_eq]
      exact fun e => fz (by rw [← e]; exact this)]
    rfl
  have i0 : inW Pp z = 0 := by
    unfold inW sumOf
    rw [List.filter_eq_nil_iff.mpr fun p hp => by
      have := (wf.rp p hp).2.1
      simp only [decide_eq_true_eq]
      exact fun e => fz (by rw [← e]; exact this)]
    rfl
  have opn : ∀ x, Opn B Pp x → Opn (B ++ [(z, b)]) Pp x := fun x h => by
    induction h with
    | soak h1 h2 => exact .soak (List.mem_append_left _ h1) h2
    | step h1 _ ih => exact .step h1 ih
  refine ⟨⟨?_, ?_, ?_, wf.np, wf.lp, ?_⟩, ?_, ?_⟩
  · rw [nms_append]
    refine List.nodup_append.mpr ⟨wf.nb, List.nodup_cons.mpr ⟨List.not_mem_nil, .nil⟩, fun u mu t mt => ?_⟩
    have et : t = z := by simpa [nms] using mt
    exact fun e => fz (by rw [← et, ← e]; exact mu)
  · rw [List.length_append]
    show B.length + 1 ≤ 12
    omega
  · intro p hp
    rcases List.mem_append.mp hp with h | h
    · exact wf.rb p h
    · have : p = (z, b) := by simpa using h
      subst this
      exact ⟨nz, b1, b2⟩
  · intro p hp
    obtain ⟨h1, h2, r⟩ := wf.rp p hp
    rw [nms_append]
    exact ⟨List.mem_append_left _ h1, List.mem_append_left _ h2, r⟩
  · intro p hp
    rcases List.mem_append.mp hp with h | h
    · exact g.fit p h
    · have : p = (z, b) := by simpa using h
      subst this
      show outW Pp z ≤ b ∧ inW Pp z ≤ b
      omega
  · intro x hx
    rw [nms_append] at hx
    rcases List.mem_append.mp hx with h | h
    · exact opn x (g.op x h)
    · have : x = z := by simpa [nms] using h
      subst this
      exact .soak (List.mem_append_right _ (List.mem_singleton.mpr rfl)) (by rw [o0]; omega)
end Nl
end
section
set_option maxHeartbeats 1000000
namespace Nl
open PySem PySem.Spec PyProof.Rows L2 Nt
theorem putB_more {B Qd : Br} {z : Str} {t : Int} : ∀ x ∈ nms B, val0 (putB Qd z (val0 Qd z + t)) x = val0 Qd x + if x = z then t else 0 := fun x hx => by
  rw [putB_val]
  by_cases e : x = z
  · rw [if_pos e, if_pos e, e]
  · rw [if_neg e, if_neg e]; omega
section
variable {P : Program} {w : World} {K : PySem.W.Frag} {mg : Str → Option Value} {base : Heap}
/-- dict([(one, N) for one in dict]) -/
theorem pairs_lc {K : PySem.W.Frag} {B : Br} {a : Addr} {H : Hp} {σ : L2.St} {te : TE} {ja jv : Nat} {Q : V → Hp → Prop} (val : Str → Int) (lb : B.length ≤ 12) (ha : H a = some (.dK (bk B))) (hja : σ[ja]? = some (some (.ref a)))
    (hv : ∀ z : Str, ((wipe σ [jv]).set jv (some (.str z)))[jv]? = some (some (V.str z))) (hw : ∀ z : Str, wipe ((wipe σ [jv]).set jv (some (.str z))) [jv] = wipe σ [jv])
    (ht : ∀ (p : Str × Int) (od : Obj) (H2 : Hp) (R : V → Hp → Prop), p ∈ B → Same (upd H a (.frz od (.dK (bk B)))) H2 → (∀ H3, Same H2 H3 → R (.int (val p.1)) H3) → te ((wipe σ [jv]).set jv (some (.str p.1))) H2 R)
    (q : ∀ D as H', Same H H' → H D = none → H' D = some (.lst (as.map V.ref)) → PairsAt H' as (mapN (nms B) val) → Q (.ref D) H') : tLockE (tLc (iKeys (tVar ja)) (gName jv) tYes (tTup (tCons (tVar jv) (tCons te tNil))) [jv]) σ H Q := by
  refine ⟨a, _, ha, trivial, fun od => ?_⟩
  refine ⟨.ref a, hja, a, od, rfl, .inl ⟨_, upd_same, fun D nD => ?_⟩⟩
  have hDa : D ≠ a := fun e => by subst e; rw [upd_same] at nD; cases nD
  have nDH : H D = none := by rw [upd_ne hDa] at nD; exact nD
  refine lc_it (n := (bk B).length) walk_keys (fun i H9 => ∃ as, H9 D = some (.lst (as.map V.ref)) ∧ PairsAt H9 as (mapN (nms (B.take i)) val) ∧ Same (upd H a (.frz od (.dK (bk B)))) H9)
      ⟨[], upd_same, ⟨rfl, fun i p e => by simp [mapN, nms] at e⟩, same_new nD⟩ (fun i H9 _ ⟨_, _, _, h⟩ => h a _ upd_same) ?_ ?_
  · rintro i x H9 H9' hi ⟨as, hD9, hP9, sm⟩ ⟨rfl, kk, v, hkv, rfl⟩
    obtain ⟨p, hp, rfl, rfl⟩ := bk_at hkv
    have lA : as.length ≤ 12 := by
      rw [hP9.1]
      unfold mapN
      rw [List.length_map, nms_len, List.length_take]
      omega
    refine ⟨hw p.1, .str p.1, hv p.1, ht p od H9' _ (List.mem_of_getElem? hp) sm fun H10 s10 => ?_⟩
    refine ⟨line1000 (by show 2 ≤ 1000; decide), fun t nt => ?_⟩
    have hD10 := s10 D _ hD9
    have nDt : D ≠ t := ne_of_none hD10 nt
    refine ⟨_, (by rw [upd_ne nDt]; exact hD10), (by rw [List.length_map]; exact small1000 (by omega)), as ++ [t], ?_, ?_, ?_⟩
    · rw [upd_same, List.map_append]; rfl
    · have e : mapN (nms (B.take (i + 1))) val = mapN (nms (B.take i)) val ++ [(p.1, val p.1)] := by
        rw [List.take_add_one, hp, nms_append]
        unfold mapN
        rw [List.map_append]; rfl
      rw [e]
      refine PairsAt.push (p := (p.1, val p.1)) (hP9.same s10) (fun b xs eb => ?_) (by rw [upd_ne (Ne.symm nDt), upd_same])
      have nb : b ≠ D := fun z => by subst z; rw [hD10] at eb; cases eb
      rw [upd_ne nb, upd_ne (ne_of_none eb nt)]; exact eb
    · exact fun c o ec => by
        have nb : c ≠ D := ne_of_none ec nD
        have e9 := s10 c o (sm c o ec)
        rw [upd_ne nb, upd_ne (ne_of_none e9 nt)]; exact e9
  · rintro H9 ⟨as, hD9, hP9, sm9⟩
    obtain ⟨l1, l2⟩ := same_lock ha sm9
    rw [bk_len, List.take_length] at hP9
    refine ⟨l1, q D as _ l2 nDH (by rw [upd_ne hDa]; exact hD9) ⟨hP9.1, fun i p e => ?_⟩⟩
    obtain ⟨t, e1, e2⟩ := hP9.2 i p e
    refine ⟨t, e1, ?_⟩
    have nt : t ≠ a := fun z => by subst z; rw [l1] at e2; cases e2
    rw [upd_ne nt]; exact e2
/-- two dicts of the same numbers -/
theorem dicts_alike {B : Br} {ys : List Str} {f : Str → Int} (nd : (nms B).Nodup) (pm : ys.Perm (nms B)) : (bk (mapN ys f)).length = (bk (mapN (nms B) f)).length ∧ ∀ p ∈ bk (mapN ys f), valV (bk (mapN (nms B) f)) p.1 = some p.2 ∧ flatB p.2 = true := by
  refine ⟨?_, fun p hp => ?_⟩
  · rw [bk_len, bk_len]
    unfold mapN
    rw [List.length_map, List.length_map, pm.length_eq]
  · obtain ⟨q, hq, e⟩ := List.mem_map.mp hp
    obtain ⟨x, hx, e2⟩ := List.mem_map.mp hq
    subst e
    subst e2
    refine ⟨?_, rfl⟩
    show valV (bk (mapN (nms B) f)) (Sum.inr x : Key) = some (.int (f x))
    rw [valV_bk, show getB (mapN (nms B) f) x = some (f x) from getB_map nd (pm.mem_iff.mp hx)]; rfl
end
end Nl
end
section
set_option maxHeartbeats 4000000
namespace Nl
open PySem PySem.Spec PyProof.Rows L2 Nt
theorem putB_mem {Q : Br} {z : Str} {v : Int} {x : Str × Int} (h : x ∈ putB Q z v) : x = (z, v) ∨ x ∈ Q := by
  unfold putB at h
  split at h
  · obtain ⟨p, hp, e⟩ := List.mem_map.mp h
    split at e
    · rename_i c
      left
      rw [← e, c]
    · right
      rw [← e]; exact hp
  · rcases List.mem_append.mp h with h | h
    · exact .inr h
    · exact .inl (List.mem_singleton.mp h)
section
variable {P : Program} {w : World} {K : PySem.W.Frag} {mg : Str → Option Value} {base : Heap}
theorem scLPoured : FnScope ["_law_pot_here", "_law_brims", "_law_found", "_law_name_here", "_law_way"] ["_law_pot_here", "_law_brims"] (defScope sLPoured) := ⟨rfl, rfl, rfl, by decide +kernel, rfl, by decide +kernel, by decide +kernel⟩
def spLPoured : Sp := fun vs H Q _ => ∃ (p a : Addr) (B : Br), vs = [.ref p, .ref a] ∧ PotAt H p ∧ H a = some (.dK (bk B)) ∧ B.length ≤ 12 ∧ (nms B).Nodup ∧ (∀ r ∈ B, 1 ≤ r.2 ∧ r.2 ≤ 60) ∧
  ∀ (r : Addr) (Qd : Br) (H' : Hp), Kp p H H' → PotAt H' p → H r = none → H' r = some (.dK (bk Qd)) → (nms Qd).Nodup → (∀ x ∈ Qd, x.1 ∈ nms B ∧ 0 ≤ x.2 ∧ x.2 ≤ 10 ^ 40) → Q (.ref r) H'
theorem ok_lpoured {f fD : Addr} {fd fdD : FuncData} (F : Fun K "_law_poured" "_law_poured" sLPoured f fd) (FD : Fun K "_law_draw" "_law_draw" sDraw fD fdD) (GD : FnOk P w K mg base CX0 1 fD fdD ["_law_pot_here", "_law_many"] spDraw) (bD : Binds K fdD ["_law_pot_here", "_law_many"] [])
    (gD : mg "_law_draw" = some (.ref fD)) (mx : mg "max" = none) : FnOk P w K mg base CX0 2 f fd ["_law_pot_here", "_law_brims"] spLPoured := by
  refine F.ok scLPoured (fun vs H Q E h => ?_) (fun cdv A outer s H vs Q E hr h => ?_)
  · obtain ⟨p, a, B, rfl, _⟩ := h
    rfl
  · obtain ⟨p, a, B, rfl, hP, hA, lB, ndB, okB, q⟩ := h
    have hu := hu_of hr
    refine ⟨_, pss_cons (ps_set (i := 2) scLPoured.nd rfl (by first | exact .inl rfl | exact .inr rfl) pe_dnewK)
      (pss_cons (ps_lock (ps_for PassesOwn.never rfl (pi_keys (pv 1)) (pg_name (i := 3) scLPoured.nd rfl (Or.inl rfl))
        (pss_cons (ps_set (i := 4) scLPoured.nd rfl (by first | exact .inl rfl | exact .inr rfl) (pe_call GD hr (by rfl) gD FD.kp bD .nil pass0 (pa_cons (pv 0) (pa_cons pe_int pa_nil))))
        (pss_cons (ps_if (pt_cmpR op_gt (pv 4) pe_int (nomark _))
          (pss_one (ps_dput hu (pv 2) (pv 3) (pe_ix ix_list (pe_lst (pa_cons pe_int (pa_cons (pe_dget hu (pv 1) (pv 3) (fun _ _ => rfl)) (pa_cons (pe_call GD hr (by rfl) gD FD.kp bD .nil pass0 (pa_cons (pv 0) (pa_cons pe_int pa_nil)))
            (pa_cons (pe_call GD hr (by rfl) gD FD.kp bD .nil pass0 (pa_cons (pv 0) (pa_cons (pe_op op_pow pe_int pe_int) pa_nil))) pa_nil))))) (pe_op op_sub (pv 4) pe_int) (fun _ _ => rfl)) rfl)) pss_nil)
        (pss_one (ps_if (pt_cmpR op_eq (pv 4) pe_int (nomark _))
          (pss_one (ps_dput hu (pv 2) (pv 3) (pe_callB (call_max2 rfl) (by rfl) mx (by decide +kernel) (pa_cons pe_int (pa_cons (pe_op op_sub (pe_op op_add (pe_dget hu (pv 1) (pv 3) (fun _ _ => rfl)) (pe_call GD hr (by rfl) gD FD.kp bD .nil pass0 (pa_cons (pv 0) (pa_cons pe_int pa_nil)))) pe_int) pa_nil))) rfl)) pss_nil))))))
      (pss_one (ps_ret (pv 2)))), ?_⟩
    refine fun D nD => ?_
    have hDp := hP.ne nD
    have hap : a ≠ p := fun e => by
      obtain ⟨x, y, hp, _⟩ := hP
      rw [← e, hA] at hp; cases hp
    have hDa : D ≠ a := fun e => by rw [e, hA] at nD; cases nD
    have hA0 : (upd H D (.dK [])) a = some (.dK (bk B)) := by rw [upd_ne (Ne.symm hDa)]; exact hA
    have e40 : (10 : Int) ^ 40 = 10000000000000000000000000000000000000000 := by decide
    refine ⟨a, _, hA0, trivial, fun od => ?_⟩
    refine ⟨.ref a, rfl, a, od, rfl, .inl ⟨_, upd_same, ?_⟩⟩
    refine for_it (n := (bk B).length) walk_keys (fun i σ H2 => ∃ (Qd : Br) (y3 y4 : Option V), σ = [some (.ref p), some (.ref a), some (.ref D), y3, y4] ∧ H2 D = some (.dK (bk Qd)) ∧ H2 a = some (.frz od (.dK (bk B))) ∧ (∀ b o, b ≠ p → b ≠ a → H b = some o → H2 b = some o) ∧ PotAt H2 p ∧ (nms Qd).Nodup ∧ ∀ x ∈ Qd, x.1 ∈ nms B ∧ 0 ≤ x.2 ∧ x.2 ≤ 10 ^ 40)
      ⟨[], none, none, rfl, by rw [upd_ne hDa]; exact upd_same, upd_same, fun b o n1 n2 e => by rw [upd_ne n2, upd_ne (ne_of_none e nD)]; exact e, (hP.new nD).put hap, List.nodup_nil, fun x hx => absurd hx List.not_mem_nil⟩ (fun i σ H2 _ ⟨_, _, _, _, _, h, _⟩ => h) ?_ ?_
    · rintro i x σ H2 H2' hi2 ⟨Qd, y3, y4, rfl, hD2, ha2, kp, hP2, ndQ, okQ⟩ ⟨rfl, kk, vv, hkv, rfl⟩
      obtain ⟨u, hu', rfl, rfl⟩ := bk_at hkv
      have hm := List.mem_of_getElem? hu'
      have mu : u.1 ∈ nms B := List.mem_map.mpr ⟨u, hm, rfl⟩
      have gz := getB_of_mem ndB (show (u.1, u.2) ∈ B from hm)
      have rz := okB u hm
      have len : ∀ {Qx : Br}, (nms Qx).Nodup → (∀ x ∈ Qx, x.1 ∈ nms B ∧ 0 ≤ x.2 ∧ x.2 ≤ 10 ^ 40) → Qx.length ≤ 12 := fun {Qx} h1 h2 => by
        have h3 := len_le_of_sub h1 (m := nms B) (fun x hx => by
          obtain ⟨v, hv, e⟩ := List.mem_map.mp hx
          rw [← (show v.1 = x from e)]; exact (h2 v hv).1)
        rw [nms_len, nms_len] at h3
        omega
      have okP : ∀ {Qx : Br} {m : Int}, (∀ x ∈ Qx, x.1 ∈ nms B ∧ 0 ≤ x.2 ∧ x.2 ≤ 10 ^ 40) → 0 ≤ m → m ≤ 10 ^ 40 → ∀ x ∈ putB Qx u.1 m, x.1 ∈ nms B ∧ 0 ≤ x.2 ∧ x.2 ≤ 10 ^ 40 := fun {Qx m} h m0 m1 x hx => by
        rcases putB_mem hx with e | e
        · rw [e]; exact ⟨mu, m0, m1⟩
        · exact h x e
      refine ⟨.ref p, rfl, p, 5, rfl, hP2, by decide, by decide, fun d H3 k3 hP3 d0 d1 => ?_⟩
      have ha3 := k3 a _ hap ha2
      have hD3 := k3 D _ hDp hD2
      have kp3 : ∀ b o, b ≠ p → b ≠ a → H b = some o → H3 b = some o := fun b o n1 n2 e => k3 b o n1 (kp b o n1 n2 e)
      refine ⟨.int d, rfl, d, 0, rfl, rfl, _, rfl, ite2 (fun c => ?_) (fun c => ?_)⟩
      · refine ⟨.ref a, rfl, .str u.1, rfl, a, .int u.2, rfl, .inl ⟨_, Sum.inr u.1, .inr ⟨od, ha3⟩, rfl, by rw [valV_bk, gz]; rfl⟩, .ref p, rfl, p, 200, rfl, hP3, by decide, by decide, fun v1 H4 k4 hP4 v10 v11 => ?_⟩
        refine ⟨.ref p, rfl, 10, 40, rfl, rfl, ⟨by decide, by decide, by decide⟩, p, 10 ^ 40, rfl, hP4, by decide, by decide, fun v2 H5 k5 hP5 v20 v21 => ?_⟩
        refine ⟨line1000 (by show 4 ≤ 1000; decide), fun l nl => ?_⟩
        have hlD : D ≠ l := ne_of_none (k5 D _ hDp (k4 D _ hDp hD3)) nl
        have hla : a ≠ l := ne_of_none (k5 a _ hap (k4 a _ hap ha3)) nl
        have c0 : d > 0 := of_decide_eq_true c
        have hm3 : ∃ m : Int, atI [V.int 0, V.int u.2, V.int v1, V.int v2] (d - 1) = some (.int m) ∧ 0 ≤ m ∧ m ≤ 10 ^ 40 := by
          have : d = 1 ∨ d = 2 ∨ d = 3 ∨ d = 4 := by omega
          rw [e40]
          rw [e40] at v21
          rcases this with rfl | rfl | rfl | rfl
          · exact ⟨0, atI_nat (j := 0) rfl, by omega, by omega⟩
          · exact ⟨u.2, atI_nat (j := 1) rfl, by omega, by omega⟩
          · exact ⟨v1, atI_nat (j := 2) rfl, v10, by omega⟩
          · exact ⟨v2, atI_nat (j := 3) rfl, v20, by omega⟩
        obtain ⟨m, hat, m0, m1⟩ := hm3
        have k36 : Kp p H3 (upd H5 l (.lst [.int 0, .int u.2, .int v1, .int v2])) := k4.trans (k5.trans (Kp.new nl))
        refine ⟨.int d, rfl, d, 1, rfl, rfl, l, _, d - 1, .int m, rfl, rfl, SqL.of upd_same, hat, .ref D, rfl, .str u.1, rfl, D, _, rfl, DPut.k (k := Sum.inr u.1) (k36 D _ hDp hD3) (by rw [bk_len]; exact small1000 (by have := len ndQ okQ; omega)), ?_⟩
        rw [putK_putB]
        have ok1 := okP okQ m0 m1
        have nd1 := putB_nd (z := u.1) (v := m) ndQ
        have hD6 : (upd (upd H5 l (.lst [.int 0, .int u.2, .int v1, .int v2])) D (.dK (bk (putB Qd u.1 m)))) D = some (.dK (bk (putB Qd u.1 m))) := upd_same
        have ha6 : (upd (upd H5 l (.lst [.int 0, .int u.2, .int v1, .int v2])) D (.dK (bk (putB Qd u.1 m)))) a = some (.frz od (.dK (bk B))) := by rw [upd_ne (Ne.symm hDa)]; exact k36 a _ hap ha3
        have hP6 := (hP5.new (o := .lst [.int 0, .int u.2, .int v1, .int v2]) nl).put (o := .dK (bk (putB Qd u.1 m))) hDp
        have kp6 : ∀ b o, b ≠ p → b ≠ a → H b = some o → (upd (upd H5 l (.lst [.int 0, .int u.2, .int v1, .int v2])) D (.dK (bk (putB Qd u.1 m)))) b = some o := fun b o n1 n2 e => by
          rw [upd_ne (ne_of_none e nD)]; exact k36 b o n1 (kp3 b o n1 n2 e)
        refine ⟨.int d, rfl, rfl, _, rfl, ite2 (fun c2 => ?_) (fun c2 => ?_)⟩
        · refine ⟨.ref a, rfl, .str u.1, rfl, a, .int u.2, rfl, .inl ⟨_, Sum.inr u.1, .inr ⟨od, ha6⟩, rfl, by rw [valV_bk, gz]; rfl⟩, .ref p, rfl, p, 3, rfl, hP6, by decide, by decide, fun v H7 k7 hP7 v0 v1 => ?_⟩
          refine ⟨u.2, v, rfl, rfl, u.2 + v, 1, rfl, rfl, 0, u.2 + v - 1, rfl, .ref D, rfl, .str u.1, rfl, D, _, rfl, DPut.k (k := Sum.inr u.1) (k7 D _ hDp hD6) (by rw [bk_len]; exact small1000 (by have := len nd1 ok1; omega)), ?_⟩
          rw [putK_putB]
          refine ⟨putB (putB Qd u.1 m) u.1 _, some (.str u.1), some (.int d), rfl, upd_same, ?_, ?_, hP7.put hDp, putB_nd nd1, okP ok1 ?_ ?_⟩
          · rw [upd_ne (Ne.symm hDa)]; exact k7 a _ hap ha6
          · intro b o n1 n2 e
            rw [upd_ne (ne_of_none e nD)]; exact k7 b o n1 (kp6 b o n1 n2 e)
          · show (0 : Int) ≤ if u.2 + v - 1 > 0 then u.2 + v - 1 else 0
            split <;> omega
          · show (if u.2 + v - 1 > 0 then u.2 + v - 1 else 0) ≤ (10 : Int) ^ 40
            rw [e40]
            split <;> omega
        · exact ⟨(putB Qd u.1 m), some (.str u.1), some (.int d), rfl, hD6, ha6, kp6, hP6, nd1, ok1⟩
      · skip
        refine ⟨.int d, rfl, rfl, _, rfl, ite2 (fun c2 => ?_) (fun c2 => ?_)⟩
        · refine ⟨.ref a, rfl, .str u.1, rfl, a, .int u.2, rfl, .inl ⟨_, Sum.inr u.1, .inr ⟨od, ha3⟩, rfl, by rw [valV_bk, gz]; rfl⟩, .ref p, rfl, p, 3, rfl, hP3, by decide, by decide, fun v H7 k7 hP7 v0 v1 => ?_⟩
          refine ⟨u.2, v, rfl, rfl, u.2 + v, 1, rfl, rfl, 0, u.2 + v - 1, rfl, .ref D, rfl, .str u.1, rfl, D, _, rfl, DPut.k (k := Sum.inr u.1) (k7 D _ hDp hD3) (by rw [bk_len]; exact small1000 (by have := len ndQ okQ; omega)), ?_⟩
          rw [putK_putB]
          refine ⟨putB Qd u.1 _, some (.str u.1), some (.int d), rfl, upd_same, ?_, ?_, hP7.put hDp, putB_nd ndQ, okP okQ ?_ ?_⟩
          · rw [upd_ne (Ne.symm hDa)]; exact k7 a _ hap ha3
          · intro b o n1 n2 e
            rw [upd_ne (ne_of_none e nD)]; exact k7 b o n1 (kp3 b o n1 n2 e)
          · show (0 : Int) ≤ if u.2 + v - 1 > 0 then u.2 + v - 1 else 0
            split <;> omega
          · show (if u.2 + v - 1 > 0 then u.2 + v - 1 else 0) ≤ (10 : Int) ^ 40
            rw [e40]
            split <;> omega
        · exact ⟨Qd, some (.str u.1), some (.int d), rfl, hD3, ha3, kp3, hP3, ndQ, okQ⟩
    · rintro σ H2 ⟨Qd, y3, y4, rfl, hD2, ha2, kp, hP2, ndQ, okQ⟩
      refine ⟨ha2, .ref D, rfl, q D Qd _ (fun b o n1 e => ?_) (hP2.put hap) nD (by rw [upd_ne hDa]; exact hD2) ndQ okQ⟩
      by_cases c : b = a
      · rw [c, hA] at e
        rw [c, upd_same]; exact e
      · rw [upd_ne c]; exact kp b o n1 c e
end
end Nl
end
section
set_option maxHeartbeats 4000000
namespace Nl
open PySem PySem.Spec PyProof.Rows L2 Nt
/-! ### things that are no texts: no ponds -/
def Odd (K : PySem.W.Frag) (H : Hp) (v : V) : Prop := ∃ t : Value, TyOf K H v t ∧ PySem.W.kitOne K t (.type "str") = some false
theorem Odd.non {K : PySem.W.Frag} {H : Hp} : Odd K H .non := ⟨_, .non, kit_ty (by decide +kernel)⟩
theorem Odd.int {K : PySem.W.Frag} {H : Hp} {i : Int} : Odd K H (.int i) := ⟨_, .int i, kit_ty (by decide +kernel)⟩
theorem Odd.tup {K : PySem.W.Frag} {H : Hp} {a : Addr} {xs : List V} (h : H a = some (.tup xs)) : Odd K H (.ref a) := ⟨_, .tup h, kit_ty (by decide +kernel)⟩
theorem Odd.bl {K : PySem.W.Frag} {H : Hp} {b : Bool} : Odd K H (.bl b) := ⟨_, .bl b, kit_ty (by decide +kernel)⟩
theorem Odd.lst {K : PySem.W.Frag} {H : Hp} {a : Addr} {xs : List V} (h : H a = some (.lst xs)) : Odd K H (.ref a) := ⟨_, .lst h, kit_ty (by decide +kernel)⟩
theorem Odd.dic {K : PySem.W.Frag} {H : Hp} {a : Addr} {kvs : List (Key × V)} (h : H a = some (.dK kvs)) : Odd K H (.ref a) := ⟨_, .dK h, kit_ty (by decide +kernel)⟩
theorem TyOf.sameX {K : PySem.W.Frag} {H H' : Hp} {v : V} {t : Value} (h : TyOf K H v t) (s : Same H H') : TyOf K H' v t := by
  cases h with
  | non => exact .non
  | bl x => exact .bl x
  | int i => exact .int i
  | str x => exact .str x
  | flt x => exact .flt x
  | lst e => exact .lst (s _ _ e)
  | frz e => exact .frz (s _ _ e)
  | tup e => exact .tup (s _ _ e)
  | dK e => exact .dK (s _ _ e)
  | dT e => exact .dT (s _ _ e)
  | ins e a b c d f => exact .ins (s _ _ e) a b c d f
theorem Odd.same {K : PySem.W.Frag} {H H' : Hp} {v : V} (h : Odd K H v) (s : Same H H') : Odd K H' v := by
  obtain ⟨t, a, b⟩ := h
  exact ⟨t, TyOf.sameX a s, b⟩
theorem Odd.noStr {K : PySem.W.Frag} {H : Hp} {v : V} (h : Odd K H v) {z : Str} (e : v = .str z) : False := by
  subst e
  obtain ⟨t, a, b⟩ := h
  cases a
  have c : PySem.W.kitOne K (.type "str") (.type "str") = some true := kit_ty (by decide +kernel)
  rw [c] at b
  cases b
/-- a text or none -/
def Thg (K : PySem.W.Frag) (H : Hp) (v : V) : Prop := (∃ z, v = .str z ∧ Sm 25 z) ∨ Odd K H v
theorem Thg.same {K : PySem.W.Frag} {H H' : Hp} {v : V} (h : Thg K H v) (s : Same H H') : Thg K H' v := h.imp id fun o => o.same s
section
variable {P : Program} {w : World} {K : PySem.W.Frag} {mg : Str → Option Value} {base : Heap} {CX : CXT} {k : Nat} {f : Addr} {fd : FuncData} {ps : List Str} {sp1 sp2 : Sp}
theorem fnok_or (F1 : FnOk P w K mg base CX k f fd ps sp1) (F2 : FnOk P w K mg base CX k f fd ps sp2) : FnOk P w K mg base CX k f fd ps (fun vs H Q E => sp1 vs H Q E ∨ sp2 vs H Q E) :=
  ⟨fun vs H Q E h => h.elim (F1.len vs H Q E) (F2.len vs H Q E), fun A outer s H args us vs Q E hr e0 hb r h => h.elim (F1.run A outer s H args us vs Q E hr e0 hb r) (F2.run A outer s H args us vs Q E hr e0 hb r)⟩
end
section
variable {P : Program} {w : World} {K : PySem.W.Frag} {mg : Str → Option Value} {base : Heap}
def spNameX (K : PySem.W.Frag) : Sp := fun vs H Q _ => ∃ v : V, vs = [v] ∧ Odd K H v ∧ ∀ H', Same H H' → Q (.bl false) H'
theorem ok_nameX {f : Addr} {fd : FuncData} {k : Nat} {tm tl : Tok} (F : Fun K "is_name" "is_name" sName f fd) (mi : mg "isinstance" = none) (ms : mg "str" = none) (ml : mg "len" = none) (ma : mg "all" = none)
    (gM : mg "MOST_LETTERS" = some (.int 8 tm)) (gL : mg "LETTERS" = some (.str abc tl)) : FnOk P w K mg base CX0 (k + 1) f fd ["thing"] (spNameX K) := by
  refine F.ok scName (fun vs H Q E h => ?_) (fun cdv A outer s H vs Q E hr h => ?_)
  · obtain ⟨z, rfl, _⟩ := h
    rfl
  · obtain ⟨v, rfl, ⟨t, ty, kt⟩, q⟩ := h
    refine ⟨_, pss_cons (ps_if (PW.pt (pw_or (pt_not (pt_val (pe_callB call_isi (by rfl) mi (by decide +kernel) (pa_cons (pv 0) (pa_cons (pe_bltn (v := .ty "str") (by rfl) ms (by decide +kernel) rfl) pa_nil)))))
        (pw_or1 (pt_not (pt_chain op_le op_le pe_int (pe_callB call_len_str (by rfl) ml PySem.boot_len (pa_cons (pv 0) pa_nil)) (pe_glob (v := .int 8) rfl gM ⟨_, rfl⟩)))))) (pss_one (ps_ret pe_bl)) pss_nil)
      (pss_one (ps_ret (pe_callB (cr_all rfl) (by rfl) ma (by decide +kernel) (pa_cons (pe_lc (own := [("letter", 1)]) (g := gName 1) (tt := tYes) rfl scName.nd (pi_str (pv 0))
        (blkOk_by (N := ["thing", "letter"]) (sc := defScope sName) (by decide +kernel)) (fun _ _ _ _ _ => pg_name (i := 1) scName.nd rfl (Or.inl rfl)) (fun _ _ _ _ _ => pts_nil)
        (fun _ _ _ _ _ => pe_cmpR op_in_sign (pv 1) (pe_glob (v := .str abc) rfl gL ⟨_, rfl⟩) (by rfl))) pa_nil)))), ?_⟩
    refine ⟨v, rfl, v, .ty "str", t, .type "str", false, rfl, .ty _, .base ty, kt, false, rfl, iteT ?_⟩
    exact q H (Same.refl _)
def spPondOfX (K : PySem.W.Frag) : Sp := fun vs H Q _ => ∃ (a : Addr) (v : V), vs = [.ref a, v] ∧ Odd K H v ∧ ∀ H', Same H H' → Q (.bl false) H'
theorem ok_pondOfX {f fN : Addr} {fd fdN : FuncData} (F : Fun K "is_pond_of" "is_pond_of" sPondOf f fd) (FN : Fun K "is_name" "is_name" sName fN fdN) (GN : FnOk P w K mg base CX0 1 fN fdN ["thing"] (spNameX K)) (bN : Binds K fdN ["thing"] []) (gN : mg "is_name" = some (.ref fN)) :
    FnOk P w K mg base CX0 2 f fd ["brims", "thing"] (spPondOfX K) := by
  refine F.ok scPondOf (fun vs H Q E h => ?_) (fun cdv A outer s H vs Q E hr h => ?_)
  · obtain ⟨a, v, rfl, _⟩ := h
    rfl
  · obtain ⟨a, v, rfl, od, q⟩ := h
    refine ⟨_, pss_one (ps_ret (pe_and (pe_call GN hr (by rfl) gN FN.kp bN .nil pass0 (pa_cons (pv 1) pa_nil)) (pe_one (pe_cmp (pc_din (hu_of hr) (pv 1) (pv 0)) rfl)))), ?_⟩
    exact ⟨v, rfl, v, rfl, od, fun H1 s1 => ⟨false, rfl, iteF (q H1 s1)⟩⟩
/-- has_pond of anything -/
def spHasT (K : PySem.W.Frag) (C : Addr) : Sp := fun vs H Q E => spHas C vs H Q E ∨ ∃ (n : Addr) (B : Br) (v : V), vs = [.ref n, v] ∧ NetRd C H n B ∧ Odd K H v ∧ ∀ H', Same H H' → Q (.bl false) H'
theorem ok_hasT {f C f1 : Addr} {fd fd1 : FuncData} (F : Fun K "has_pond" "Net.has_pond" mNet_has_pond f fd) (T : TxN K mg C) (G : FnOk P w K mg base CX0 3 f fd ["self", "thing"] (spHas C))
    (F1 : Fun K "is_pond_of" "is_pond_of" sPondOf f1 fd1) (G1 : FnOk P w K mg base CX0 2 f1 fd1 ["brims", "thing"] (spPondOfX K)) (b1 : Binds K fd1 ["brims", "thing"] []) (g1 : mg "is_pond_of" = some (.ref f1)) :
    FnOk P w K mg base CX0 3 f fd ["self", "thing"] (spHasT K C) := by
  refine fnok_or G (F.ok scHas (fun vs H Q E h => ?_) (fun cdv A outer s H vs Q E hr h => ?_))
  · obtain ⟨n, B, v, rfl, _⟩ := h
    rfl
  · obtain ⟨n, B, v, rfl, ⟨dx, d1, d2, hn, h1⟩, od, q⟩ := h
    refine ⟨_, pss_one (ps_ret (pe_call G1 hr (by rfl) g1 F1.kp b1 .nil pass0 (pa_cons (pe_fld (pv 0) rfl) (pa_cons (pv 1) pa_nil)))), ?_⟩
    exact ⟨.ref n, rfl, n, C, dx, _, _, rfl, hn, T.cl, T.nB, nf_b d1 d2, v, rfl, d1, v, rfl, od, q⟩
end
end Nl
end
section
set_option maxHeartbeats 4000000
namespace Nl
open PySem PySem.Spec PyProof.Rows L2 Nt
section
variable {P : Program} {w : World} {K : PySem.W.Frag} {mg : Str → Option Value} {base : Heap}
def spWholeY (K : PySem.W.Frag) : Sp := fun vs H Q _ => ∃ (v : V) (j : Int), vs = [v, .int j] ∧ ((∃ t : Value, TyOf K H v t ∧ PySem.W.kitOne K t (.type "int") = some false) ∨ (∃ b, v = .bl b)) ∧ Q (.bl false) H
theorem ok_wholeY {f : Addr} {fd : FuncData} {k : Nat} (F : Fun K "is_whole" "is_whole" sWhole f fd) (mi : mg "isinstance" = none) (mt : mg "int" = none) (mb : mg "bool" = none) :
    FnOk P w K mg base CX0 (k + 1) f fd ["thing", "least"] (spWholeY K) := by
  refine F.ok scWhole (fun vs H Q E h => ?_) (fun cdv A outer s H vs Q E hr h => ?_)
  · obtain ⟨v, j, rfl, _⟩ := h
    rfl
  · obtain ⟨v, j, rfl, h, q⟩ := h
    refine ⟨_, pss_one (ps_ret (pe_and (pe_callB call_isi (by rfl) mi (by decide +kernel) (pa_cons (pv 0) (pa_cons (pe_bltn (v := .ty "int") (by rfl) mt (by decide +kernel) rfl) pa_nil)))
      (pe_and (pe_not (pe_callB call_isi (by rfl) mi (by decide +kernel) (pa_cons (pv 0) (pa_cons (pe_bltn (v := .ty "bool") (by rfl) mb (by decide +kernel) rfl) pa_nil)))) (pe_one (pe_cmpR op_ge (pv 0) (pv 1) (nomark _)))))), ?_⟩
    rcases h with ⟨t, ty, kt⟩ | ⟨b, rfl⟩
    · exact ⟨v, rfl, v, .ty "int", t, .type "int", false, rfl, .ty _, .base ty, kt, false, rfl, iteF q⟩
    · refine ⟨.bl b, rfl, .bl b, .ty "int", .type "bool", .type "int", true, rfl, .ty _, .base (.bl b), kit_ty (by decide +kernel), true, rfl, iteT ?_⟩
      exact ⟨.bl b, rfl, .bl b, .ty "bool", .type "bool", .type "bool", true, rfl, .ty _, .base (.bl b), kit_ty (by decide +kernel), true, rfl, false, rfl, iteF q⟩
end
end Nl
end
section
set_option maxHeartbeats 2000000
/-! the dict {None: 1}: made, asked for its kind, listed, walked -/
namespace Rl
open PySem PySem.Spec PyProof.Rows L2
/-- its object -/
def OneN (P : Program) (w : World) (o : Obj) : Prop := ∃ t, o.IsDictOf (leafKind P w) [(Leaf.none, .int 1 t)]
/-- such an object stands at p -/
def DN (p : Addr) (o : Obj) : HO := .ext fun h => h.get? p = some o
def NoneD (P : Program) (w : World) (H : Hp) (p : Addr) : Prop := ∃ o, H p = some (DN p o) ∧ OneN P w o ∧ (p == sysModules) = false
theorem NoneD.at_ {P : Program} {w : World} {H H' : Hp} {p : Addr} (h : NoneD P w H p) (k : ∀ o, H p = some o → (∀ l, o ≠ .lst l) → H' p = some o) : NoneD P w H' p := by
  obtain ⟨o, e, r⟩ := h
  exact ⟨o, k _ e (fun l c => by cases c), r⟩
def tDispN (P : Program) (w : World) : TE := fun _ H Q => ∀ p o, H p = none → OneN P w o → (p == sysModules) = false → Q (.ref p) (upd H p (DN p o))
section
variable {X : Cx} {pins : List (Addr × Obj)} {σ : L2.St} {H : Hp} {s : Shared}
theorem dn_get {p : Addr} {o : Obj} (I : Inv X pins σ H s) (h : H p = some (DN p o)) : s.heap.get? p = some o := (I.hok p _ h).1
theorem dn_ok {H : Hp} {h : Heap} {p : Addr} {o : Obj} (e : h.get? p = some o) : ObjOk X.prog X.w H h p (DN p o) := ⟨e, ⟨o, e⟩, fun _ _ a k => k o a⟩
theorem pe_dispN {kx vx : Expr} {pos : Pos} (hk : PE X kx (tC .non)) (hv : PE X vx (tC (.int 1))) : PE X (.Dict [some kx] [vx] pos) (tDispN X.prog X.w) := by
  refine ⟨fun pins s σ H Q I q => ?_⟩
  have hn := I.hok.fresh (Nat.le_refl s.heap.objs.size)
  have I1 := I.laid (a := s.heap.objs.size) (o := .dK []) (h' := s.heap.push { cls := .type "dict", data := .dict #[] }) (t' := s.toks) (fun _ _ q => Heap.get?_push_of_some _ q) (Nat.le_refl _) (dk_empty s.heap I.big)
  have pp : PPs X pos [some kx] [vx] [(tC .non, tC (.int 1))] := pps_cons hk hv pps_nil
  refine wpAny_Dict_walk (knd := leafKind X.prog X.w) rfl rfl (by simp) (show 1 ≤ 15 by decide) (thn (pp.run pins _ σ _ (fun ps H2 => ps = [(.non, .int 1)] ∧ H2 = upd H s.heap.objs.size (.dK [])) I1 ⟨rfl, rfl⟩) fun ws s2 g => ?_)
  obtain ⟨ps, H2, I2, rel, rfl, rfl⟩ := g
  obtain ⟨z, hd, vs0, r0, o0, es0, ep0, g1, g2, g3, g4, g5, g6⟩ := dk_of I2.hok (upd_same (H := H) (a := s.heap.objs.size) (o := .dK []))
  cases r0
  have hes : es0.toList = [] := List.eq_nil_of_length_eq_zero (by have := g5.length; simpa using this)
  have hc : es0 = #[] := by rw [← Array.toArray_toList (xs := es0), hes]
  subst hc
  cases rel with
  | @cons a b as bs h t =>
    cases t
    obtain ⟨b1, b2⟩ := b
    obtain ⟨h1, h2⟩ := h
    cases (show b1 = Value.none from h1)
    obtain ⟨tk, h2⟩ := (show ∃ t, b2 = Value.int 1 t from h2)
    cases h2
    refine ⟨[(Leaf.none, .int 1 tk)], ⟨rfl, rfl, True.intro⟩, ⟨o0, #[], ep0, g1, g2, g3, fun e he => by simp at he, by first | exact .nil | trivial, List.nodup_nil⟩, fun h' dd' hs => ?_⟩
    obtain ⟨o, e, ok⟩ := Heap.dictOf_iff.mp dd'
    refine ⟨.ref s.heap.objs.size, _, ?_, rfl, q _ o hn ⟨tk, ok⟩ hd⟩
    have J := d_write (X := X) (t' := s2.toks + 1) I2 (by rw [upd_same]; exact True.intro) hs ⟨o, e⟩ (dn_ok (H := upd (upd H s.heap.objs.size (.dK [])) s.heap.objs.size (DN s.heap.objs.size o)) e)
    rw [upd_upd] at J
    exact J
/-- isinstance(d, c) -/
def rIsiN (P : Program) (w : World) (K : PySem.W.Frag) : List V → Hp → VK → Prop := fun xs H Q => ∃ (p : Addr) (c : V) (u : Value) (b : Bool), xs = [.ref p, c] ∧ ClsV c u ∧ NoneD P w H p ∧ PySem.W.kitOne K (.type "dict") u = some b ∧ Q (.bl b) H
theorem call_isiN : CallR X (.builtin "isinstance") (rIsiN X.prog X.w X.K) := by
  intro pins s σ H xs us Q I r h
  obtain ⟨p, c, u, b, rfl, k, ⟨o, hp, ⟨t, es, ep, hx, _⟩, _⟩, e, q⟩ := h
  obtain ⟨u1, u2, rfl, r1, r2⟩ := vals2 r
  cases (show u1 = Value.ref p from r1)
  have e2 := k.eq r2
  subst e2
  exact PySem.W.kia_one PySem.W.kitx_dict I.kIn ⟨o, dn_get I hp, hx.1⟩ e (fun z => nomatch z) fun tk => ⟨.bl b, H, I.tok tk, rfl, q⟩
/-- list(d) -/
def rListN (P : Program) (w : World) : List V → Hp → VK → Prop := fun xs H Q => ∃ p, xs = [.ref p] ∧ NoneD P w H p ∧ ∀ q, H q = none → Q (.ref q) (upd H q (.lst [.non]))
theorem call_listN (hc : X.calm = true) : CallR X (.type "list") (rListN X.prog X.w) := by
  intro pins s σ H xs us Q I r h
  obtain ⟨p, rfl, ⟨o, hp, ⟨t, ok⟩, lo⟩, q⟩ := h
  obtain ⟨u, rfl, rx⟩ := vals1 r
  cases (show u = Value.ref p from rx)
  have hd : s.heap.DictOf (leafKind X.prog X.w) p [(Leaf.none, .int 1 t)] := Heap.dictOf_iff.mpr ⟨o, dn_get I hp, ok⟩
  obtain ⟨ep, hat⟩ := hd.dictAt
  refine PySem.W.kdl_call (PySem.W.kdl_dict (knd := leafKind X.prog X.w) (kvs := [(Leaf.none, .int 1 t)]) (ep := ep) lo) (I.ok.hd hc) hat (by show 1 ≤ sizeLine; decide) fun h' tk acc c' hk hD hacc => ?_
  refine ⟨.ref s.heap.objs.size, upd H s.heap.objs.size (.lst [.non]), I.laid (t' := tk) hk (Nat.le_refl _)
    (show ObjOk X.prog X.w _ _ _ (.lst [.non]) from ⟨by show 1 ≤ sizeLine; decide, acc.toList, c', ?_, by rw [Array.toArray_toList]; exact hD⟩), rfl, q _ (I.hok.fresh (Nat.le_refl _))⟩
  have l1 : acc.toList.length = 1 := by rw [Array.length_toList]; exact hacc.1
  cases e : acc.toList with
  | nil => rw [e] at l1; cases l1
  | cons x r =>
    rw [e] at l1
    have rn : r = [] := List.eq_nil_of_length_eq_zero (by simpa using l1)
    subst rn
    obtain ⟨k, y, hk2, hi⟩ := hacc.2 0 x (by rw [← Array.getElem?_toList, e]; rfl)
    cases (show some ((Leaf.none, Value.int 1 t)) = some (k, y) from hk2)
    have hx : x = Value.none := by
      have h0 : Leaf.isOf .none x = true := hi
      cases x <;> first | rfl | cases h0
    subst hx
    exact .cons rfl .nil
/-- its one key -/
def ItN (p : Addr) (o : Obj) : It := ⟨fun i H => H p = some (DN p o) ∧ i < 1, fun i H x H' => H' = H ∧ x = .non, fun i H => H p = some (DN p o) ∧ 1 ≤ i⟩
theorem turn_keysN {P : Program} {w : World} {K : PySem.W.Frag} {tg : Expr} {d : Addr} {o : Obj} {es : Array DictEntry} {ep : Nat} (it : Addr) (one : OneN P w o) (hs : (d == sysModules) = false) (hod : o.data = .dict es ep) : Turn P w K tg (ItN d o) [it] it (fun i h => h.IsKeyIter it d i 1 ep) where
  mem := by simp
  obj := fun i h st b hb => by
    have e : b = it := by simpa using hb
    subst e
    obtain ⟨oi, e, c, dd⟩ := st
    exact ⟨oi, e, fun v z => by rw [dd] at z; cases z⟩
  keep := fun i h h' st k => st.at fun oi e => k it (by simp) oi e
  item := by
    intro X hP hw hK hc i pins s σ H E I hf st hg
    subst hP hw hK
    obtain ⟨hd, hi⟩ := hg
    obtain ⟨f0, f1, f2, f3, f4, f5⟩ := hf it (by simp)
    have hgd := dn_get I hd
    obtain ⟨t, es', ep', hx, hdt, r⟩ := one
    obtain ⟨rfl, rfl⟩ := dict_ep hod hdt
    have hm : s.heap.DictAt (leafKind X.prog X.w) d [(Leaf.none, .int 1 t)] ep' := ⟨o, es', hgd, hx, hdt, r⟩
    have i0 : i = 0 := by omega
    subst i0
    refine wpAny_pyNext_dict_item st hm (k := Leaf.none) (v := .int 1 t) rfl fun key h' hkey st' sb => ?_
    have I1 : Inv X pins σ H { s with heap := h' } := I.turned (t' := s.toks) (fun b ob hb e => (sb.2 b hb).trans e) f0 f1 f3 f4 f5
    obtain ⟨oi, e, c, dd⟩ := id st'
    have hk : key = Value.none := by
      have h0 : Leaf.isOf .none key = true := hkey
      cases key <;> first | rfl | cases h0
    subst hk
    exact ⟨Value.none, rfl, go_of (s := { s with heap := h' }) e c dd (by decide) ⟨.non, H, I1, rfl, ⟨rfl, rfl⟩, st', fun b hb => (hf b hb).1⟩⟩
  done := by
    intro X hP hw hK hc i pins s σ H E I hf st hg
    subst hP hw hK
    obtain ⟨hd, hi⟩ := hg
    obtain ⟨f0, f1, f2, f3, f4, f5⟩ := hf it (by simp)
    have hgd := dn_get I hd
    obtain ⟨t, es', ep', hx, hdt, r⟩ := one
    obtain ⟨rfl, rfl⟩ := dict_ep hod hdt
    have hsz : es'.size = 1 := by
      have := r.2.1.length
      rw [Array.length_toList] at this
      exact this
    exact next_key_end (I.ok.hd hc) st hgd hdt hsz hi fun h' eb => ⟨rfl, I.turned (t' := s.toks) (fun b ob hb e => eb b ob hb e) f0 f1 f3 f4 f5⟩
  self := fun A i s Q E st h => wpAny_pyIter_keyiter st h
/-- for k in d -/
def iKeysN (P : Program) (w : World) (td : TE) : TI := fun σ H R => td σ H fun x H1 => ∃ p o, x = .ref p ∧ H1 p = some (DN p o) ∧ OneN P w o ∧ (p == sysModules) = false ∧ R (ItN p o) H1
theorem pi_keysN {tg e : Expr} {td : TE} (he : PE X e td) : PI X tg e (iKeysN X.prog X.w td) := by
  refine ⟨fun pins s σ H R I h => ?_⟩
  refine thn (he.run pins s σ H _ I h) fun u s1 ⟨x, H1, I1, rx, p, o, ex, hp, one, hs, q⟩ => ?_
  subst ex
  obtain rfl : u = Value.ref p := rx
  have hgd := dn_get I1 hp
  obtain ⟨t, es, ep, hx, hdt, r⟩ := id one
  have hsz : es.size = 1 := by
    have := r.2.1.length
    rw [Array.length_toList] at this
    exact this
  refine iter_keys hs hgd hx hdt (pi_one (tk := s1.toks) I1 _ (turn_keysN _ one hs hdt) ⟨_, Heap.get?_push_size _ rfl, rfl, ?_⟩ q)
  rw [hsz] <;> rfl
end
end Rl
namespace Rl
open PySem PySem.Spec PyProof.Rows L2
/-- either of two promises of a built-in -/
theorem callr_or {X : Cx} {f : Value} {r1 r2 : List V → Hp → VK → Prop} (h1 : CallR X f r1) (h2 : CallR X f r2) : CallR X f (fun xs H Q => r1 xs H Q ∨ r2 xs H Q) := by
  intro pins s σ H xs us Q I r h
  rcases h with h | h
  · exact h1 pins s σ H xs us Q I r h
  · exact h2 pins s σ H xs us Q I r h
end Rl
end
section
set_option maxHeartbeats 4000000
namespace Nl
open PySem PySem.Spec PyProof.Rows L2 Nt
/-! ### wrong_keys of tables that aren't let -/
theorem walk_keysN {d : Addr} {o : Obj} : Walk (Rl.ItN d o) 1 (fun H => H d = some (Rl.DN d o)) (fun i H x H' => H' = H ∧ x = .non) :=
  ⟨fun _ _ hi q => ⟨q, hi⟩, fun _ q => ⟨q, Nat.le_refl _⟩, fun _ _ _ _ _ _ y => y⟩
/-- no dict, and something -/
def NonD (H : Hp) (t : V) : Prop := (∃ i, t = .int i) ∨ (∃ b, t = .bl b) ∨ (∃ z, t = .str z) ∨ (∃ a xs, t = .ref a ∧ H a = some (.lst xs)) ∨ ∃ a xs, t = .ref a ∧ H a = some (.tup xs)
/-- no whole number from 0 on -/
def BadV (H : Hp) (v : V) : Prop := (∃ i : Int, v = .int i ∧ i < 0) ∨ v = .non ∨ (∃ z, v = .str z) ∨ (∃ b, v = .bl b) ∨ ∃ l xs, v = .ref l ∧ H l = some (.lst xs)
/-- a table with one wrong key, told -/
inductive BadT (P : Program) (w : World) (H : Hp) (B : Br) : V → V → Prop
  | non {t : V} (h : NonD H t) : BadT P w H B t .non
  | one {a : Addr} (h : Rl.NoneD P w H a) : BadT P w H B (.ref a) .non
  | num {a : Addr} {i : Int} {v : V} (h : H a = some (.dK [(Sum.inl i, v)])) : BadT P w H B (.ref a) (.int i)
  | key {a : Addr} {z : Str} {v : V} (h : H a = some (.dK [(Sum.inr z, v)])) (sm : Sm 25 z) (no : z ∉ nms B) : BadT P w H B (.ref a) (.str z)
  | val {a : Addr} {z : Str} {v : V} (h : H a = some (.dK [(Sum.inr z, v)])) (nz : Nm z) (mz : z ∈ nms B) (b : BadV H v) : BadT P w H B (.ref a) (.str z)
theorem NonD.same {H H' : Hp} {t : V} (h : NonD H t) (s : Same H H') : NonD H' t := h.imp id (Or.imp id (Or.imp id (Or.imp (fun ⟨a, xs, e, q⟩ => ⟨a, xs, e, s _ _ q⟩) (fun ⟨a, xs, e, q⟩ => ⟨a, xs, e, s _ _ q⟩))))
theorem BadV.same {H H' : Hp} {v : V} (h : BadV H v) (s : Same H H') : BadV H' v := h.imp id (Or.imp id (Or.imp id (Or.imp id (fun ⟨a, xs, e, q⟩ => ⟨a, xs, e, s _ _ q⟩))))
theorem BadT.same {P : Program} {w : World} {H H' : Hp} {B : Br} {t u : V} (h : BadT P w H B t u) (s : Same H H') : BadT P w H' B t u := by
  cases h with
  | non h => exact .non (h.same s)
  | one h => exact .one (h.at_ fun o e _ => s _ _ e)
  | num h => exact .num (s _ _ h)
  | key h sm no => exact .key (s _ _ h) sm no
  | val h nz mz b => exact .val (s _ _ h) nz mz (b.same s)
section
variable {P : Program} {w : World} {K : PySem.W.Frag} {mg : Str → Option Value} {base : Heap}
def spWrongX (P : Program) (w : World) (C : Addr) : Sp := fun vs H Q _ => ∃ (n : Addr) (t u : V) (B : Br) (Pp : Pi), vs = [.ref n, t] ∧ NetAt C H n B Pp ∧ Good B Pp ∧ BadT P w H B t u ∧ ∀ H' p, Same H H' → H p = none → H' p = some (.lst [u]) → Q (.ref p) H'
theorem cut_one {x : V} : cutV [x] none (some 1) = [x] := rfl
theorem wrong_A {f C f1 f2 : Addr} {fd fd1 fd2 : FuncData} (F : Fun K "wrong_keys" "wrong_keys" sWrong f fd) (T : TxN K mg C)
    (mi : mg "isinstance" = none) (md : mg "dict" = none) : FnOk P w K mg base CX0 4 f fd ["net", "table"] (fun vs H Q _ => ∃ (n : Addr) (t : V), vs = [.ref n, t] ∧ NonD H t ∧ ∀ H' p, Same H H' → H p = none → H' p = some (.lst [.non]) → Q (.ref p) H') := by
  refine F.ok scWrong (fun vs H Q E h => ?_) (fun cdv A outer s H vs Q E hr h => ?_)
  · obtain ⟨n, t, rfl, _⟩ := h
    rfl
  · obtain ⟨n, t, rfl, nd, q⟩ := h
    refine ⟨_, pss_cons (ps_if (pt_cmp (pc_isN (pv 1))) (pss_one ps_never) pss_nil)
      (pss_cons (ps_if (pt_not (pt_val (pe_callB call_isi (by rfl) mi (by decide +kernel) (pa_cons (pv 1) (pa_cons (pe_bltn (v := .ty "dict") (by rfl) md (by decide +kernel) rfl) pa_nil))))) (pss_one (ps_ret (pe_lst (pa_cons pe_non pa_nil)))) pss_nil)
      (pss_one ps_never)), ?_⟩
    have fin : ∀ p, H p = none → Q (.ref p) (upd H p (.lst [.non])) := fun p np => q _ p (same_new np) np upd_same
    rcases nd with ⟨i, rfl⟩ | ⟨b, rfl⟩ | ⟨z, rfl⟩ | ⟨a, xs, rfl, ha⟩ | ⟨a, xs, rfl, ha⟩
    · exact ⟨.int i, rfl, false, rfl, iteF ⟨.int i, rfl, .int i, .ty "dict", .type "int", .type "dict", false, rfl, .ty _, .base (.int i), kit_ty (by decide +kernel), false, rfl, iteT ⟨by show 1 ≤ sizeLine; decide, fin⟩⟩⟩
    · exact ⟨.bl b, rfl, false, rfl, iteF ⟨.bl b, rfl, .bl b, .ty "dict", .type "bool", .type "dict", false, rfl, .ty _, .base (.bl b), kit_ty (by decide +kernel), false, rfl, iteT ⟨by show 1 ≤ sizeLine; decide, fin⟩⟩⟩
    · exact ⟨.str z, rfl, false, rfl, iteF ⟨.str z, rfl, .str z, .ty "dict", .type "str", .type "dict", false, rfl, .ty _, .base (.str z), kit_ty (by decide +kernel), false, rfl, iteT ⟨by show 1 ≤ sizeLine; decide, fin⟩⟩⟩
    · exact ⟨.ref a, rfl, false, rfl, iteF ⟨.ref a, rfl, .ref a, .ty "dict", .type "list", .type "dict", false, rfl, .ty _, .base (.lst ha), kit_ty (by decide +kernel), false, rfl, iteT ⟨by show 1 ≤ sizeLine; decide, fin⟩⟩⟩
    · exact ⟨.ref a, rfl, false, rfl, iteF ⟨.ref a, rfl, .ref a, .ty "dict", .type "tuple", .type "dict", false, rfl, .ty _, .base (.tup ha), kit_ty (by decide +kernel), false, rfl, iteT ⟨by show 1 ≤ sizeLine; decide, fin⟩⟩⟩
theorem wrong_B {f C f1 f2 : Addr} {fd fd1 fd2 : FuncData} (F : Fun K "wrong_keys" "wrong_keys" sWrong f fd) (T : TxN K mg C)
    (m1 : Meth K C "has_pond" f1) (G1 : FnOk P w K mg base CX0 3 f1 fd1 ["self", "thing"] (spHasT K C)) (b1 : Binds K fd1 ["self", "thing"] [])
    (F2 : Fun K "is_whole" "is_whole" sWhole f2 fd2) (G2 : FnOk P w K mg base CX0 1 f2 fd2 ["thing", "least"] spWhole) (b2 : Binds K fd2 ["thing", "least"] []) (g2 : mg "is_whole" = some (.ref f2))
    (mi : mg "isinstance" = none) (md : mg "dict" = none) : FnOk P w K mg base CX0 4 f fd ["net", "table"] (fun vs H Q _ => ∃ (n a : Addr) (B : Br) (Pp : Pi), vs = [.ref n, .ref a] ∧ NetAt C H n B Pp ∧ Rl.NoneD P w H a ∧ ∀ H' p, Same H H' → H p = none → H' p = some (.lst [.non]) → Q (.ref p) H') := by
  refine F.ok scWrong (fun vs H Q E h => ?_) (fun cdv A outer s H vs Q E hr h => ?_)
  · obtain ⟨n, a, B, Pp, rfl, _⟩ := h
    rfl
  · obtain ⟨n, a, B, Pp, rfl, N, ⟨o, ha, one, lo⟩, q⟩ := h
    refine ⟨_, pss_cons (ps_if (pt_cmp (pc_isN (pv 1))) (pss_one ps_never) pss_nil)
      (pss_cons (ps_if (pt_not (pt_val (pe_callB Rl.call_isiN (by rfl) mi (by decide +kernel) (pa_cons (pv 1) (pa_cons (pe_bltn (v := .ty "dict") (by rfl) md (by decide +kernel) rfl) pa_nil))))) (pss_one ps_never) pss_nil)
      (pss_one (ps_ret (pe_slice sl_list (pe_lc (own := [("key", 2)]) (g := gName 2) rfl scWrong.nd (Rl.pi_keysN (pv 1))
        (blkOk_by (N := ["net", "table", "key"]) (sc := defScope sWrong) (by decide +kernel)) (fun _ _ _ _ _ => pg_name (i := 2) scWrong.nd rfl (Or.inl rfl))
        (fun _ _ _ _ _ => pts_one (PW.pt (pw_or (pt_not (pt_val (pe_meth (pv 0) T.cl m1 G1 hr b1 .nil pass0 (pa_cons (pv 2) pa_nil)))) (pw_or1 (pt_not (pt_val (pe_call G2 (hr.mono (by decide)) (by rfl) g2 F2.kp b2 .nil pass0 (pa_cons (pe_dget (hu_of hr) (pv 1) (pv 2) (fun _ _ => rfl)) (pa_cons pe_int pa_nil)))))))))
        (fun _ _ _ _ _ => pv 2)) po_none (po_some pe_int))))), ?_⟩
    refine ⟨.ref a, rfl, false, rfl, iteF ⟨.ref a, rfl, a, .ty "dict", .type "dict", true, rfl, .ty _, ⟨o, ha, one, lo⟩, kit_ty (by decide +kernel), true, rfl, iteF ?_⟩⟩
    refine ⟨.ref a, rfl, a, o, rfl, ha, one, lo, fun D nD => ?_⟩
    have s1 := same_new (o := .lst []) nD
    refine lc_it (n := 1) walk_keysN (fun i H1 => (if i = 0 then H1 D = some (.lst []) else H1 D = some (.lst [.non])) ∧ (∀ x o, x ≠ D → (upd H D (.lst [])) x = some o → H1 x = some o)) ⟨upd_same, fun x o _ e => e⟩ (fun i H1 _ h => ?_) ?_ ?_
    · exact h.2 a _ (ne_of_none ha nD) (s1 a _ ha)
    · rintro i x H1 H1' hi ⟨hD, kp⟩ ⟨rfl, rfl⟩
      have i0 : i = 0 := by omega
      subst i0
      have N1 : NetRd C H1' n B := by
        obtain ⟨dx, d1, d2, hn, h1, h2⟩ := N.at_
        exact ⟨dx, d1, d2, kp _ _ (ne_of_none hn nD) (s1 _ _ hn), .inl (kp _ _ (ne_of_none h1 nD) (s1 _ _ h1))⟩
      obtain ⟨dx', d1', d2', hn', _⟩ := id N1
      refine ⟨rfl, .ref n, rfl, n, dx', _, rfl, hn', no_attr, .non, rfl, .inr ⟨n, B, .non, rfl, N1, Odd.non, fun H2 s2 => ?_⟩⟩
      refine ⟨false, rfl, iteT ?_⟩
      refine ⟨_, rfl, _, s2 D _ hD, by show 0 < sizeLine; decide, upd_same, fun x o ne e => ?_⟩
      rw [upd_ne ne]; exact s2 x o (kp x o ne e)
    · rintro H1 ⟨hD, kp⟩
      refine ⟨1, rfl, D, [.non], rfl, SqL.of hD, fun p np => ?_⟩
      rw [cut_one]
      have s01 : Same H H1 := fun x o e => kp x o (ne_of_none e nD) (s1 x o e)
      exact q _ p (s01.trans (same_new np)) (s01.free np) upd_same
theorem wrong_K {f C f1 f2 : Addr} {fd fd1 fd2 : FuncData} (F : Fun K "wrong_keys" "wrong_keys" sWrong f fd) (T : TxN K mg C)
    (m1 : Meth K C "has_pond" f1) (G1 : FnOk P w K mg base CX0 3 f1 fd1 ["self", "thing"] (spHasT K C)) (b1 : Binds K fd1 ["self", "thing"] [])
    (F2 : Fun K "is_whole" "is_whole" sWhole f2 fd2) (G2 : FnOk P w K mg base CX0 1 f2 fd2 ["thing", "least"] spWhole) (GX2 : FnOk P w K mg base CX0 1 f2 fd2 ["thing", "least"] (spWholeY K)) (b2 : Binds K fd2 ["thing", "least"] []) (g2 : mg "is_whole" = some (.ref f2))
    (mi : mg "isinstance" = none) (md : mg "dict" = none) : FnOk P w K mg base CX0 4 f fd ["net", "table"] (fun vs H Q _ => ∃ (n a : Addr) (B : Br) (Pp : Pi) (k : Key) (v : V), vs = [.ref n, .ref a] ∧ NetAt C H n B Pp ∧ H a = some (.dK [(k, v)]) ∧ ((∃ i, k = .inl i) ∨ (∃ z, k = .inr z ∧ Sm 25 z ∧ z ∉ nms B) ∨ ∃ z, k = .inr z ∧ Nm z ∧ z ∈ nms B ∧ BadV H v) ∧ ∀ H' p, Same H H' → H p = none → H' p = some (.lst [kV k]) → Q (.ref p) H') := by
  refine F.ok scWrong (fun vs H Q E h => ?_) (fun cdv A outer s H vs Q E hr h => ?_)
  · obtain ⟨n, a, B, Pp, k, v, rfl, _⟩ := h
    rfl
  · obtain ⟨n, a, B, Pp, k, v, rfl, N, hA, bad, q⟩ := h
    obtain ⟨dx, d1, d2, hn, h1, h2⟩ := N.at_
    refine ⟨_, pss_cons (ps_if (pt_cmp (pc_isN (pv 1))) (pss_one ps_never) pss_nil)
      (pss_cons (ps_if (pt_not (pt_val (pe_callB call_isi (by rfl) mi (by decide +kernel) (pa_cons (pv 1) (pa_cons (pe_bltn (v := .ty "dict") (by rfl) md (by decide +kernel) rfl) pa_nil))))) (pss_one ps_never) pss_nil)
      (pss_one (ps_ret (pe_slice sl_list (pe_lock (pe_lc (own := [("key", 2)]) (g := gName 2) rfl scWrong.nd (pi_keys (pv 1))
        (blkOk_by (N := ["net", "table", "key"]) (sc := defScope sWrong) (by decide +kernel)) (fun _ _ _ _ _ => pg_name (i := 2) scWrong.nd rfl (Or.inl rfl))
        (fun _ _ _ _ _ => pts_one (PW.pt (pw_or (pt_not (pt_val (pe_meth (pv 0) T.cl m1 G1 hr b1 .nil pass0 (pa_cons (pv 2) pa_nil)))) (pw_or1 (pt_not (pt_val (pe_call (fnok_or G2 GX2) (hr.mono (by decide)) (by rfl) g2 F2.kp b2 .nil pass0 (pa_cons (pe_dget (hu_of hr) (pv 1) (pv 2) (fun _ _ => rfl)) (pa_cons pe_int pa_nil)))))))))
        (fun _ _ _ _ _ => pv 2))) po_none (po_some pe_int))))), ?_⟩
    refine ⟨.ref a, rfl, false, rfl, iteF ⟨.ref a, rfl, .ref a, .ty "dict", .type "dict", .type "dict", true, rfl, .ty _, .base (.dK hA), kit_ty (by decide +kernel), true, rfl, iteF ?_⟩⟩
    refine ⟨a, _, hA, trivial, fun od => ?_⟩
    refine ⟨.ref a, rfl, a, od, rfl, .inl ⟨_, upd_same, fun D nD => ?_⟩⟩
    have hDa : D ≠ a := fun e => by subst e; rw [upd_same] at nD; cases nD
    have nDH : H D = none := by rw [upd_ne hDa] at nD; exact nD
    have sN : ∀ {H1 : Hp}, Same (upd H a (.frz od (.dK [(k, v)]))) H1 → NetRd C H1 n B := fun {H1} sm => by
      have na : n ≠ a := fun e => by subst e; rw [hn] at hA; cases hA
      refine ⟨dx, d1, d2, sm n _ (by rw [upd_ne na]; exact hn), ?_⟩
      by_cases had : d1 = a
      · rw [had] at h1
        rw [hA] at h1
        have e1 : HO.dK [(k, v)] = HO.dK (bk B) := Option.some.inj h1
        rw [had]
        injection e1 with e1
        rw [← e1]
        exact .inr ⟨od, sm a _ upd_same⟩
      · exact .inl (sm d1 _ (by rw [upd_ne had]; exact h1))
    have s1 := same_new (o := .lst []) nD
    refine lc_it (n := 1) walk_keys (fun i H1 => (if i = 0 then H1 D = some (.lst []) else H1 D = some (.lst [kV k])) ∧ (∀ x o, x ≠ D → (upd (upd H a (.frz od (.dK [(k, v)]))) D (.lst [])) x = some o → H1 x = some o)) ⟨upd_same, fun x o _ e => e⟩ (fun i H1 _ h => ?_) ?_ ?_
    · exact h.2 a _ (Ne.symm hDa) (s1 a _ upd_same)
    · rintro i x H1 H1' hi ⟨hD, kp⟩ ⟨rfl, kk, v', hkv, rfl⟩
      have i0 : i = 0 := by omega
      subst i0
      cases (show some (k, v) = some (kk, v') from hkv)
      have sm1 : ∀ y o, y ≠ D → (upd H a (.frz od (.dK [(k, v)]))) y = some o → H1' y = some o := fun y o ne e => kp y o ne (s1 y o e)
      have N1 : NetRd C H1' n B := by
        have hfr : ∀ y o, (upd H a (.frz od (.dK [(k, v)]))) y = some o → H1' y = some o := fun y o e => sm1 y o (ne_of_none e nD) e
        exact sN hfr
      obtain ⟨dx', d1', d2', hn', _⟩ := id N1
      have fin : ∀ {H2 : Hp} {R : Prop}, Same H1' H2 → (H2 D = some (.lst []) → R) → R := fun {H2 R} s2 f => f (s2 D _ hD)
      have done : ∀ {H2 : Hp}, Same H1' H2 → ∃ acc, H2 D = some (.lst acc) ∧ acc.length < sizeLine ∧ ((if 0 + 1 = 0 then (upd H2 D (.lst (acc ++ [kV k]))) D = some (.lst []) else (upd H2 D (.lst (acc ++ [kV k]))) D = some (.lst [kV k])) ∧ (∀ x o, x ≠ D → (upd (upd H a (.frz od (.dK [(k, v)]))) D (.lst [])) x = some o → (upd H2 D (.lst (acc ++ [kV k]))) x = some o)) := fun {H2} s2 =>
        ⟨[], s2 D _ hD, by show 0 < sizeLine; decide, by rw [if_neg (by decide)]; exact upd_same, fun x o ne e => by rw [upd_ne ne]; exact s2 x o (kp x o ne e)⟩
      rcases bad with ⟨i, rfl⟩ | ⟨z, rfl, sm, no⟩ | ⟨z, rfl, nz, mz, bv⟩
      · refine ⟨rfl, .ref n, rfl, n, dx', _, rfl, hn', no_attr, .int i, rfl, .inr ⟨n, B, .int i, rfl, N1, Odd.int, fun H2 s2 => ?_⟩⟩
        exact ⟨false, rfl, iteT ⟨_, rfl, done s2⟩⟩
      · refine ⟨rfl, .ref n, rfl, n, dx', _, rfl, hn', no_attr, .str z, rfl, .inl ⟨n, B, z, rfl, N1, sm, fun H2 s2 => ?_⟩⟩
        rw [decide_eq_false no, Bool.and_false]
        exact ⟨false, rfl, iteT ⟨_, rfl, done s2⟩⟩
      · refine ⟨rfl, .ref n, rfl, n, dx', _, rfl, hn', no_attr, .str z, rfl, .inl ⟨n, B, z, rfl, N1, nz.sm.mono (by decide), fun H2 s2 => ?_⟩⟩
        rw [show nameB z = true from nz, decide_eq_true mz]
        refine ⟨true, rfl, iteF ?_⟩
        have hA2 : H2 a = some (.frz od (.dK [(Sum.inr z, v)])) := s2 a _ (sm1 a _ (Ne.symm hDa) upd_same)
        refine ⟨.ref a, rfl, .str z, rfl, a, v, rfl, .inl ⟨_, Sum.inr z, .inr ⟨od, hA2⟩, rfl, by simp [valV]⟩, ?_⟩
        have d2 := done s2
        rcases bv with ⟨i, rfl, hi⟩ | rfl | ⟨y, rfl⟩ | ⟨c, rfl⟩ | ⟨l, xs, rfl, hl⟩
        · refine .inl ⟨i, 0, rfl, ?_⟩
          rw [decide_eq_false (show ¬ i ≥ 0 by omega)]
          exact ⟨false, rfl, iteT ⟨_, rfl, d2⟩⟩
        · exact .inr ⟨.non, 0, rfl, .inl ⟨_, .non, kit_ty (by decide +kernel)⟩, false, rfl, iteT ⟨_, rfl, d2⟩⟩
        · exact .inr ⟨.str y, 0, rfl, .inl ⟨_, .str y, kit_ty (by decide +kernel)⟩, false, rfl, iteT ⟨_, rfl, d2⟩⟩
        · exact .inr ⟨.bl c, 0, rfl, .inr ⟨c, rfl⟩, false, rfl, iteT ⟨_, rfl, d2⟩⟩
        · have la : l ≠ a := fun e => by rw [e, hA] at hl; cases hl
          have hl2 : H2 l = some (.lst xs) := s2 l _ (sm1 l _ (fun e => by rw [e, nDH] at hl; cases hl) (by rw [upd_ne la]; exact hl))
          exact .inr ⟨.ref l, 0, rfl, .inl ⟨_, .lst hl2, kit_ty (by decide +kernel)⟩, false, rfl, iteT ⟨_, rfl, d2⟩⟩
    · rintro H1 ⟨hD, kp⟩
      have sm : Same (upd H a (.frz od (.dK [(k, v)]))) H1 := fun y o e => kp y o (ne_of_none e nD) (s1 y o e)
      obtain ⟨l1, l2⟩ := same_lock hA sm
      refine ⟨l1, 1, rfl, D, [kV k], rfl, SqL.of (by rw [upd_ne hDa]; exact hD), fun p np => ?_⟩
      rw [cut_one]
      exact q _ p (l2.trans (same_new np)) (l2.free np) upd_same
theorem ok_wrongX {f C f1 f2 : Addr} {fd fd1 fd2 : FuncData} (F : Fun K "wrong_keys" "wrong_keys" sWrong f fd) (T : TxN K mg C)
    (m1 : Meth K C "has_pond" f1) (G1 : FnOk P w K mg base CX0 3 f1 fd1 ["self", "thing"] (spHasT K C)) (b1 : Binds K fd1 ["self", "thing"] [])
    (F2 : Fun K "is_whole" "is_whole" sWhole f2 fd2) (G2 : FnOk P w K mg base CX0 1 f2 fd2 ["thing", "least"] spWhole) (GX2 : FnOk P w K mg base CX0 1 f2 fd2 ["thing", "least"] (spWholeY K)) (b2 : Binds K fd2 ["thing", "least"] []) (g2 : mg "is_whole" = some (.ref f2))
    (mi : mg "isinstance" = none) (md : mg "dict" = none) : FnOk P w K mg base CX0 4 f fd ["net", "table"] (spWrongX P w C) := by
  have A := wrong_A (P := P) (w := w) (base := base) (f1 := f1) (f2 := f2) (fd1 := fd1) (fd2 := fd2) F T mi md
  have Bb := wrong_B (P := P) (w := w) (base := base) F T m1 G1 b1 F2 G2 b2 g2 mi md
  have Kk := wrong_K (P := P) (w := w) (base := base) F T m1 G1 b1 F2 G2 GX2 b2 g2 mi md
  have G := fnok_or A (fnok_or Bb Kk)
  have use : ∀ {vs : List V} {H : Hp} {Q : VK} {E : XK}, spWrongX P w C vs H Q E → _ ∨ _ := fun {vs H Q E} h => (show (∃ (n : Addr) (t : V), vs = [.ref n, t] ∧ NonD H t ∧ ∀ H' p, Same H H' → H p = none → H' p = some (.lst [.non]) → Q (.ref p) H') ∨ (∃ (n a : Addr) (B : Br) (Pp : Pi), vs = [.ref n, .ref a] ∧ NetAt C H n B Pp ∧ Rl.NoneD P w H a ∧ ∀ H' p, Same H H' → H p = none → H' p = some (.lst [.non]) → Q (.ref p) H') ∨ (∃ (n a : Addr) (B : Br) (Pp : Pi) (k : Key) (v : V), vs = [.ref n, .ref a] ∧ NetAt C H n B Pp ∧ H a = some (.dK [(k, v)]) ∧ ((∃ i, k = .inl i) ∨ (∃ z, k = .inr z ∧ Sm 25 z ∧ z ∉ nms B) ∨ ∃ z, k = .inr z ∧ Nm z ∧ z ∈ nms B ∧ BadV H v) ∧ ∀ H' p, Same H H' → H p = none → H' p = some (.lst [kV k]) → Q (.ref p) H') by
    obtain ⟨n, t, u, B, Pp, rfl, N, good, bt, q⟩ := h
    cases bt with
    | non h => exact .inl ⟨n, t, rfl, h, q⟩
    | one h => exact .inr (.inl ⟨n, _, B, Pp, rfl, N, h, q⟩)
    | num h => exact .inr (.inr ⟨n, _, B, Pp, _, _, rfl, N, h, .inl ⟨_, rfl⟩, q⟩)
    | key h sm no => exact .inr (.inr ⟨n, _, B, Pp, _, _, rfl, N, h, .inr (.inl ⟨_, rfl, sm, no⟩), q⟩)
    | val h nz mz b => exact .inr (.inr ⟨n, _, B, Pp, _, _, rfl, N, h, .inr (.inr ⟨_, rfl, nz, mz, b⟩), q⟩))
  exact ⟨fun vs H Q E h => G.len vs H Q E (use h), fun A outer s H args us vs Q E hr e0 hb r h => G.run A outer s H args us vs Q E hr e0 hb r (use h)⟩
end
end Nl
end
section
set_option maxHeartbeats 4000000
/-! dicts whose keys are None, truths, numbers, texts and tuples, mixed -/
namespace Rl
open PySem PySem.Spec PyProof.Rows L2
open Sem (wp)
/-- the keys of the entries -/
structure Kys (w : World) (h : Heap) (ks : List NestedKey) (es : Array DictEntry) : Prop where
  sz : es.size = ks.length
  ent : ∀ (i : Nat) (x : DictEntry), es[i]? = some x → ∃ k, ks[i]? = some k ∧ x.hash = k.hash w ∧ NestedIs h k x.key ∧ k.depth ≤ 8
  nd : ks.Nodup
theorem Kys.rev {w : World} {h : Heap} {ks : List NestedKey} {es : Array DictEntry} (y : Kys w h ks es) {i : Nat} {k : NestedKey} (e : ks[i]? = some k) : ∃ x : DictEntry, es[i]? = some x ∧ x.hash = k.hash w ∧ NestedIs h k x.key := by
  have lt : i < es.size := by rw [y.sz]; exact (List.getElem?_eq_some_iff.mp e).1
  obtain ⟨k2, e2, a, b, _⟩ := y.ent i es[i] (Array.getElem?_eq_getElem lt)
  rw [e] at e2
  cases e2
  exact ⟨_, Array.getElem?_eq_getElem lt, a, b⟩
section
variable {prog : Program} {w : World} {A : Around} {E : Value → Shared → Prop} {s : Shared} {d : Addr} {o : Obj} {es : Array DictEntry} {ep : Nat} {ks : List NestedKey} {k : NestedKey} {key : Value}
theorem no_tell {stored : List Value} {Q : Bool → Shared → Prop} (hk : NestedIs s.heap k key) (dk : k.depth ≤ 8) (all : ∀ v ∈ stored, ∃ c, NestedIs s.heap c v ∧ c.depth ≤ 8) (q : Q false s) :
    wpAny (model prog w) A (tableMayTell key stored) Q E s := by
  unfold tableMayTell
  split
  · exact wpAny_pure q
  · refine wpAny_bind (quiet_key k key 8 s hk dk A E _ ?_)
    simp only [Bool.not_true, Bool.false_eq_true, if_false]
    refine wpAny_bind ?_
    refine wpAny_forIn_list _ (fun l r s2 => s2 = s ∧ r = (none, ()) ∧ ∀ v ∈ l, ∃ c, NestedIs s.heap c v ∧ c.depth ≤ 8) _ ?_ ?_ _ _ ⟨rfl, rfl, all⟩
    · rintro x l r s2 ⟨rfl, rfl, hl⟩
      obtain ⟨c, hc, dc⟩ := hl x List.mem_cons_self
      refine wpAny_bind (quiet_key c x 8 s2 hc dc A E _ ?_)
      simp only [Bool.not_true, Bool.false_eq_true, if_false]
      exact wpAny_pure ⟨rfl, rfl, fun v m => hl v (List.mem_cons_of_mem _ m)⟩
    · rintro r s2 ⟨rfl, rfl, _⟩
      exact wpAny_pure q
theorem eq_mix {c : NestedKey} {v : Value} {Q : Bool → Shared → Prop} (hu : A.units + 8 < cLine) (hc : NestedIs s.heap c v) (dc : c.depth ≤ 8) (hk : NestedIs s.heap k key) (q : Q (decide (c = k)) s) :
    wpAny (model prog w) A (eqBool v key) Q E s := by
  refine eqAt_key c k A s v key hc hk (by omega) prog w E Q ?_
  rw [← NestedKey.decide_eq]
  exact q
/-- the places that are looked at -/
def plc (w : World) (es : Array DictEntry) (k : NestedKey) (i : Nat) : List Nat := (List.range' i (es.size - i)).filter fun i => (es[i]?.map (·.hash)) == some (k.hash w)
theorem plc0 : placesWithHash es.size (fun i => es[i]?.map (·.hash)) (k.hash w) = plc w es k 0 := by
  rw [placesWithHash, List.range_eq_range', plc, Nat.sub_zero]
theorem plc_cons (y : Kys w s.heap ks es) {x i : Nat} {l : List Nat} (e : x :: l = plc w es k i) : i ≤ x ∧ ∃ h : x < es.size, l = plc w es k (x + 1) ∧ ∀ j, i ≤ j → j < x → ks[j]? ≠ some k := by
  obtain ⟨h1, h2, h3, h4, h5⟩ := filter_range'_cons _ _ _ _ _ e.symm
  refine ⟨h1, by omega, ?_, fun j a b c => ?_⟩
  · rw [h5, plc]; congr 2; omega
  · obtain ⟨z, z1, z2, _⟩ := y.rev c
    have := h4 j a b
    rw [z1, Option.map_some, z2] at this
    simp at this
theorem plc_nil (y : Kys w s.heap ks es) {i : Nat} (e : [] = plc w es k i) : ∀ j, i ≤ j → ks[j]? ≠ some k := fun j a c => by
  have lt : j < ks.length := (List.getElem?_eq_some_iff.mp c).1
  have sz := y.sz
  have := List.filter_eq_nil_iff.mp e.symm j (List.mem_range'_1.mpr ⟨a, by omega⟩)
  obtain ⟨z, z1, z2, _⟩ := y.rev c
  rw [z1, Option.map_some, z2] at this
  simp at this
theorem walk_mix {Q : Option Nat → Shared → Prop} (hu : A.units + 8 < cLine) (hk : NestedIs s.heap k key) (ho : s.heap.get? d = some o) (hd : o.data = .dict es ep) (y : Kys w s.heap ks es)
    (q0 : k ∉ ks → Q none s) (q1 : ∀ j, ks[j]? = some k → Q (some j) s) : wpAny (model prog w) A (dictWalkPlain d key (k.hash w) es (placesWithHash es.size (fun i => es[i]?.map (·.hash)) (k.hash w))) Q E s := by
  rw [plc0]
  unfold dictWalkPlain
  refine wpAny_bind ?_
  refine wpAny_forIn_list _ (fun l b s2 => s2 = s ∧ b = (none, ()) ∧ ∃ i, l = plc w es k i ∧ ∀ j, j < i → ks[j]? ≠ some k) _ ?_ ?_ _ _ ⟨rfl, rfl, 0, rfl, fun _ z => absurd z (Nat.not_lt_zero _)⟩
  · rintro x l b s2 ⟨rfl, rfl, i, hl, no⟩
    obtain ⟨ix, lt, hl2, no2⟩ := plc_cons y hl
    obtain ⟨c, c1, c2, c3, c4⟩ := y.ent x es[x] (Array.getElem?_eq_getElem lt)
    have go : c ≠ k → ∃ i, l = plc w es k i ∧ ∀ j, j < i → ks[j]? ≠ some k := fun ne => ⟨x + 1, hl2, fun j lj e => by
      rcases Nat.lt_or_ge j i with a | a
      · exact no j a e
      · rcases Nat.lt_or_ge j x with b | b
        · exact no2 j a b e
        · have : j = x := by omega
          subst this
          rw [c1] at e
          exact ne (Option.some.inj e)⟩
    simp only [Array.getElem?_eq_getElem lt]
    by_cases hh : (es[x].hash == k.hash w) = true
    · rw [if_pos hh]
      refine wpAny_bind (wpAny_dictEpoch ho hd (wpAny_bind (eq_mix hu c3 c4 hk (wpAny_bind (wpAny_dictEpoch ho hd ?_)))))
      show wpAny _ _ (if (ep != ep) = true then _ else _) _ E _
      rw [if_neg (by simp)]
      by_cases ck : c = k
      · rw [decide_eq_true ck]
        subst ck
        exact wpAny_bind (wpAny_rule (wpAny_pure (wpAny_pure (q1 x c1))))
      · rw [decide_eq_false ck]
        exact wpAny_bind (wpAny_rule (wpAny_pure ⟨rfl, rfl, go ck⟩))
    · rw [if_neg hh]
      refine wpAny_pure ⟨rfl, rfl, go fun e => ?_⟩
      rw [c2, e] at hh
      simp at hh
  · rintro b s2 ⟨rfl, rfl, i, hl, no⟩
    refine wpAny_pure (q0 fun m => ?_)
    obtain ⟨j, e⟩ := List.mem_iff_getElem?.mp m
    rcases Nat.lt_or_ge j i with a | a
    · exact no j a e
    · exact plc_nil y hl j a e
theorem nd_at {l : List NestedKey} (nd : l.Nodup) {i j : Nat} {c : NestedKey} (a : l[i]? = some c) (b : l[j]? = some c) : i = j :=
  (List.getElem?_inj (List.getElem?_eq_some_iff.mp a).1 nd).mp (a.trans b.symm)
theorem find_mix {Q : Option Nat → Shared → Prop} (hu : A.units + 8 < cLine) (hk : NestedIs s.heap k key) (dk : k.depth ≤ 8) (ho : s.heap.get? d = some o) (hd : o.data = .dict es ep) (y : Kys w s.heap ks es)
    (q0 : k ∉ ks → Q none s) (q1 : ∀ j, ks[j]? = some k → Q (some j) s) : wpAny (model prog w) A (dictFind d key (k.hash w)) Q E s := by
  have hw := walk_mix (E := E) (prog := prog) hu hk ho hd y q0 q1
  have all : ∀ v ∈ (placesWithHash es.size (fun i => es[i]?.map (·.hash)) (k.hash w)).filterMap (fun i => es[i]?.map (·.key)), ∃ c, NestedIs s.heap c v ∧ c.depth ≤ 8 := fun v m => by
    obtain ⟨i, _, e⟩ := List.mem_filterMap.mp m
    obtain ⟨x, e1, e2⟩ := Option.map_eq_some_iff.mp e
    subst e2
    obtain ⟨c, _, _, c3, c4⟩ := y.ent i x e1
    exact ⟨c, c3, c4⟩
  have hany : ∀ a, key = .ref a → ¬ (es.any fun e => e.key == Value.ref a && e.hash != k.hash w) = true := fun a ea => by
    rw [← Array.any_toList, List.any_eq_true]
    rintro ⟨x, m, e⟩
    obtain ⟨i, hi⟩ := List.mem_iff_getElem?.mp m
    obtain ⟨c, _, c2, c3, _⟩ := y.ent i x (by rw [← Array.getElem?_toList]; exact hi)
    simp only [Bool.and_eq_true, beq_iff_eq, bne_iff_ne, ne_eq] at e
    rw [e.1, ← ea] at c3
    exact e.2 (by rw [c2, NestedIs.inj _ _ _ c3 hk])
  unfold dictFind
  try with_reducible refine wpAny_holding ?_
  refine wpAny_bind (wpAny_dictEntries ho hd ?_)
  dsimp only
  by_cases hall : ((key :: (placesWithHash es.size (fun i => es[i]?.map (·.hash)) (k.hash w)).filterMap fun i => es[i]?.map (·.key)).all carriedByValue) = true
  · rw [if_pos hall]
    split
    · rename_i x t
      split
      · rename_i st
        have key1 : ∀ j, ks[j]? = some k ↔ (es[j]?.map fun (e : DictEntry) => e.key.isStr x) = some true := fun j => by
          cases hk
          constructor
          · intro e
            obtain ⟨z, z1, _, z3⟩ := y.rev e
            rw [z1]
            cases hz : z.key with
            | str b u =>
              rw [hz] at z3
              cases z3
              rw [Option.map_some, hz]
              simp [Value.isStr]
            | _ => rw [hz] at z3; cases z3
          · intro e
            cases hz : es[j]? with
            | none => rw [hz] at e; cases e
            | some z =>
              rw [hz] at e
              obtain ⟨c, c1, _, c3, _⟩ := y.ent j z hz
              have e' : z.key.isStr x = true := Option.some.inj e
              cases hq : z.key with
              | str b u =>
                rw [hq] at e' c3
                cases c3
                have : b = x := by simpa [Value.isStr] using e'
                rw [c1, this]
              | _ => rw [hq] at e'; simp [Value.isStr] at e'
        unfold foundByValue
        cases hf : es.findIdx? (fun e => e.key.isStr x) with
        | none =>
          refine wpAny_pure (q0 fun m => ?_)
          obtain ⟨j, e⟩ := List.mem_iff_getElem?.mp m
          have e2 := (key1 j).mp e
          cases hz : es[j]? with
          | none => rw [hz] at e2; cases e2
          | some z =>
            rw [hz] at e2
            have := Array.findIdx?_eq_none_iff.mp hf z (Array.mem_of_getElem? hz)
            have e' : z.key.isStr x = true := Option.some.inj e2
            rw [e'] at this
            cases this
        | some i =>
          obtain ⟨lt, e1, _⟩ := Array.findIdx?_eq_some_iff_getElem.mp hf
          have ki : ks[i]? = some k := (key1 i).mpr (by rw [Array.getElem?_eq_getElem lt]; exact congrArg some e1)
          obtain ⟨c, c1, c2, c3, c4⟩ := y.ent i es[i] (Array.getElem?_eq_getElem lt)
          rw [ki] at c1
          cases c1
          simp only [Array.getElem?_eq_getElem lt]
          refine wpAny_bind (wpAny_dictEpoch ho hd (wpAny_bind (eq_mix hu c3 c4 hk (wpAny_bind (wpAny_dictEpoch ho hd ?_)))))
          show wpAny _ _ (if (ep != ep) = true then _ else _) _ E _
          rw [if_neg (by simp), decide_eq_true rfl]
          exact wpAny_bind (wpAny_rule (wpAny_pure (q1 i ki)))
      · exact hw
    · exact hw
  · rw [if_neg hall]
    have nstr : ∀ x t, key = .str x t → ¬ (es.all fun e => isExactStrKey e.key) = true := fun x t ek c => by
      refine hall (List.all_eq_true.mpr fun v m => ?_)
      rcases List.mem_cons.mp m with rfl | m
      · rw [ek]; rfl
      · obtain ⟨i, _, e⟩ := List.mem_filterMap.mp m
        obtain ⟨x, e1, e2⟩ := Option.map_eq_some_iff.mp e
        have := Array.all_eq_true.mp c i (Array.getElem?_eq_some_iff.mp e1).1
        rw [(Array.getElem?_eq_some_iff.mp e1).2] at this
        subst e2
        cases hx : x.key <;> rw [hx] at this <;> first | rfl | cases this
    have stay : ∀ {hit : Option Nat} {i x : Nat} {c : NestedKey}, ((hit = none ∧ ∀ j, j < i → ks[j]? ≠ some k) ∨ ∃ j, hit = some j ∧ j < i ∧ ks[j]? = some k) → i ≤ x → (∀ j, i ≤ j → j < x → ks[j]? ≠ some k) → ks[x]? = some c → c ≠ k →
        ((hit = none ∧ ∀ j, j < x + 1 → ks[j]? ≠ some k) ∨ ∃ j, hit = some j ∧ j < x + 1 ∧ ks[j]? = some k) := fun {hit i x c} h ix no e ne => by
      rcases h with ⟨h0, hn⟩ | ⟨j, h1, hj, hk⟩
      · refine .inl ⟨h0, fun j lj ej => ?_⟩
        rcases Nat.lt_or_ge j i with a | a
        · exact hn j a ej
        · rcases Nat.lt_or_ge j x with b | b
          · exact no j a b ej
          · have : j = x := by omega
            subst this
            rw [e] at ej
            exact ne (Option.some.inj ej)
      · exact .inr ⟨j, h1, by omega, hk⟩
    have fresh : ∀ {hit : Option Nat} {i x : Nat}, ((hit = none ∧ ∀ j, j < i → ks[j]? ≠ some k) ∨ ∃ j, hit = some j ∧ j < i ∧ ks[j]? = some k) → i ≤ x → ks[x]? = some k → hit = none := fun {hit i x} h ix e => by
      rcases h with ⟨h0, _⟩ | ⟨j, _, hj, hk⟩
      · exact h0
      · have := nd_at y.nd hk e
        omega
    split
    · rename_i x t
      rw [if_neg (nstr x t rfl)]
      dsimp only
      by_cases hone : ((placesWithHash es.size (fun i => es[i]?.map (·.hash)) (k.hash w)).filterMap (fun i => es[i]?.map (·.key)) == [Value.str x t]) = true <;> (first | rw [if_pos hone] | rw [if_neg hone]) <;> (first | refine wpAny_bind (wpAny_pure ?_) | refine wpAny_bind (no_tell hk dk all ?_)) <;> (
        rw [if_neg (by simp)]
        refine wpAny_bind ?_
        rw [plc0]
        refine wpAny_forIn_list _ (fun l b s2 => s2 = s ∧ ∃ i hit, b = (none, hit) ∧ l = plc w es k i ∧ ((hit = none ∧ ∀ j, j < i → ks[j]? ≠ some k) ∨ ∃ j, hit = some j ∧ j < i ∧ ks[j]? = some k)) _ ?_ ?_ _ _ ⟨rfl, 0, none, rfl, rfl, .inl ⟨rfl, fun _ z => absurd z (Nat.not_lt_zero _)⟩⟩
        · rintro x l b s2 ⟨rfl, i, hit, rfl, hl, hH⟩
          obtain ⟨ix, lt, hl2, no2⟩ := plc_cons y hl
          obtain ⟨c, c1, c2, c3, c4⟩ := y.ent x es[x] (Array.getElem?_eq_getElem lt)
          rw [Array.getElem?_eq_getElem lt]
          dsimp only
          by_cases hh : (es[x].hash == k.hash w) = true
          · rw [if_pos hh]
            refine wpAny_bind (wpAny_dictEpoch ho hd (wpAny_bind (eq_mix hu c3 c4 hk (wpAny_bind (wpAny_dictEpoch ho hd ?_)))))
            show wpAny _ _ (if (ep != ep) = true then _ else _) _ E _
            rw [if_neg (by simp)]
            by_cases ck : c = k
            · rw [decide_eq_true ck]
              have h0 := fresh hH ix (ck ▸ c1)
              subst h0
              first | rw [if_pos rfl] | skip
              simp only [Option.isSome_none, Bool.false_eq_true, if_false]
              first | refine wpAny_bind (wpAny_pure ?_) | skip
              refine wpAny_bind (wpAny_rule ?_)
              split
              · exact wpAny_pure (wpAny_pure (q1 x (ck ▸ c1)))
              · exact wpAny_pure ⟨rfl, x + 1, some x, rfl, hl2, .inr ⟨x, rfl, Nat.lt_succ_self x, ck ▸ c1⟩⟩
            · rw [decide_eq_false ck]
              simp only [Bool.false_eq_true, if_false]
              refine wpAny_bind (wpAny_rule ?_)
              first | rw [if_neg (by simp)] | skip
              first
                | exact wpAny_pure ⟨rfl, x + 1, hit, rfl, hl2, stay hH ix no2 c1 ck⟩
                | exact wpAny_bind (wpAny_pure (wpAny_pure ⟨rfl, x + 1, hit, rfl, hl2, stay hH ix no2 c1 ck⟩))
          · rw [if_neg hh]
            refine wpAny_pure ⟨rfl, x + 1, hit, rfl, hl2, stay hH ix no2 c1 fun e => ?_⟩
            rw [c2, e] at hh
            simp at hh
        · rintro b s2 ⟨rfl, i, hit, rfl, hl, hH⟩
          rcases hH with ⟨rfl, no⟩ | ⟨j, rfl, _, e⟩
          · refine wpAny_pure (q0 fun m => ?_)
            obtain ⟨j, e⟩ := List.mem_iff_getElem?.mp m
            rcases Nat.lt_or_ge j i with a | a
            · exact no j a e
            · exact plc_nil y hl j a e
          · exact wpAny_pure (q1 j e))
    · split
      · rename_i a _
        rw [if_neg (hany a rfl)]
        by_cases hone : ((placesWithHash es.size (fun i => es[i]?.map (·.hash)) (k.hash w)).filterMap (fun i => es[i]?.map (·.key)) == [Value.ref a]) = true <;> (first | rw [if_pos hone] | rw [if_neg hone]) <;> (first | refine wpAny_bind (wpAny_pure ?_) | refine wpAny_bind (no_tell hk dk all ?_)) <;> (
          rw [if_neg (by simp)]
          refine wpAny_bind ?_
          rw [plc0]
          refine wpAny_forIn_list _ (fun l b s2 => s2 = s ∧ ∃ i hit, b = (none, hit) ∧ l = plc w es k i ∧ ((hit = none ∧ ∀ j, j < i → ks[j]? ≠ some k) ∨ ∃ j, hit = some j ∧ j < i ∧ ks[j]? = some k)) _ ?_ ?_ _ _ ⟨rfl, 0, none, rfl, rfl, .inl ⟨rfl, fun _ z => absurd z (Nat.not_lt_zero _)⟩⟩
          · rintro x l b s2 ⟨rfl, i, hit, rfl, hl, hH⟩
            obtain ⟨ix, lt, hl2, no2⟩ := plc_cons y hl
            obtain ⟨c, c1, c2, c3, c4⟩ := y.ent x es[x] (Array.getElem?_eq_getElem lt)
            rw [Array.getElem?_eq_getElem lt]
            dsimp only
            by_cases hh : (es[x].hash == k.hash w) = true
            · rw [if_pos hh]
              refine wpAny_bind (wpAny_dictEpoch ho hd (wpAny_bind (eq_mix hu c3 c4 hk (wpAny_bind (wpAny_dictEpoch ho hd ?_)))))
              show wpAny _ _ (if (ep != ep) = true then _ else _) _ E _
              rw [if_neg (by simp)]
              by_cases ck : c = k
              · rw [decide_eq_true ck]
                have h0 := fresh hH ix (ck ▸ c1)
                subst h0
                first | rw [if_pos rfl] | skip
                simp only [Option.isSome_none, Bool.false_eq_true, if_false]
                first | refine wpAny_bind (wpAny_pure ?_) | skip
                refine wpAny_bind (wpAny_rule ?_)
                split
                · exact wpAny_pure (wpAny_pure (q1 x (ck ▸ c1)))
                · exact wpAny_pure ⟨rfl, x + 1, some x, rfl, hl2, .inr ⟨x, rfl, Nat.lt_succ_self x, ck ▸ c1⟩⟩
              · rw [decide_eq_false ck]
                simp only [Bool.false_eq_true, if_false]
                refine wpAny_bind (wpAny_rule ?_)
                first | rw [if_neg (by simp)] | skip
                first
                  | exact wpAny_pure ⟨rfl, x + 1, hit, rfl, hl2, stay hH ix no2 c1 ck⟩
                  | exact wpAny_bind (wpAny_pure (wpAny_pure ⟨rfl, x + 1, hit, rfl, hl2, stay hH ix no2 c1 ck⟩))
            · rw [if_neg hh]
              refine wpAny_pure ⟨rfl, x + 1, hit, rfl, hl2, stay hH ix no2 c1 fun e => ?_⟩
              rw [c2, e] at hh
              simp at hh
          · rintro b s2 ⟨rfl, i, hit, rfl, hl, hH⟩
            rcases hH with ⟨rfl, no⟩ | ⟨j, rfl, _, e⟩
            · refine wpAny_pure (q0 fun m => ?_)
              obtain ⟨j, e⟩ := List.mem_iff_getElem?.mp m
              rcases Nat.lt_or_ge j i with a | a
              · exact no j a e
              · exact plc_nil y hl j a e
            · exact wpAny_pure (q1 j e))
      · by_cases hone : ((placesWithHash es.size (fun i => es[i]?.map (·.hash)) (k.hash w)).filterMap (fun i => es[i]?.map (·.key)) == [key]) = true <;> (first | rw [if_pos hone] | rw [if_neg hone]) <;> (first | refine wpAny_bind (wpAny_pure ?_) | refine wpAny_bind (no_tell hk dk all ?_)) <;> (
          rw [if_neg (by simp)]
          refine wpAny_bind ?_
          rw [plc0]
          refine wpAny_forIn_list _ (fun l b s2 => s2 = s ∧ ∃ i hit, b = (none, hit) ∧ l = plc w es k i ∧ ((hit = none ∧ ∀ j, j < i → ks[j]? ≠ some k) ∨ ∃ j, hit = some j ∧ j < i ∧ ks[j]? = some k)) _ ?_ ?_ _ _ ⟨rfl, 0, none, rfl, rfl, .inl ⟨rfl, fun _ z => absurd z (Nat.not_lt_zero _)⟩⟩
          · rintro x l b s2 ⟨rfl, i, hit, rfl, hl, hH⟩
            obtain ⟨ix, lt, hl2, no2⟩ := plc_cons y hl
            obtain ⟨c, c1, c2, c3, c4⟩ := y.ent x es[x] (Array.getElem?_eq_getElem lt)
            rw [Array.getElem?_eq_getElem lt]
            dsimp only
            by_cases hh : (es[x].hash == k.hash w) = true
            · rw [if_pos hh]
              refine wpAny_bind (wpAny_dictEpoch ho hd (wpAny_bind (eq_mix hu c3 c4 hk (wpAny_bind (wpAny_dictEpoch ho hd ?_)))))
              show wpAny _ _ (if (ep != ep) = true then _ else _) _ E _
              rw [if_neg (by simp)]
              by_cases ck : c = k
              · rw [decide_eq_true ck]
                have h0 := fresh hH ix (ck ▸ c1)
                subst h0
                first | rw [if_pos rfl] | skip
                simp only [Option.isSome_none, Bool.false_eq_true, if_false]
                first | refine wpAny_bind (wpAny_pure ?_) | skip
                refine wpAny_bind (wpAny_rule ?_)
                split
                · exact wpAny_pure (wpAny_pure (q1 x (ck ▸ c1)))
                · exact wpAny_pure ⟨rfl, x + 1, some x, rfl, hl2, .inr ⟨x, rfl, Nat.lt_succ_self x, ck ▸ c1⟩⟩
              · rw [decide_eq_false ck]
                simp only [Bool.false_eq_true, if_false]
                refine wpAny_bind (wpAny_rule ?_)
                first | rw [if_neg (by simp)] | skip
                first
                  | exact wpAny_pure ⟨rfl, x + 1, hit, rfl, hl2, stay hH ix no2 c1 ck⟩
                  | exact wpAny_bind (wpAny_pure (wpAny_pure ⟨rfl, x + 1, hit, rfl, hl2, stay hH ix no2 c1 ck⟩))
            · rw [if_neg hh]
              refine wpAny_pure ⟨rfl, x + 1, hit, rfl, hl2, stay hH ix no2 c1 fun e => ?_⟩
              rw [c2, e] at hh
              simp at hh
          · rintro b s2 ⟨rfl, i, hit, rfl, hl, hH⟩
            rcases hH with ⟨rfl, no⟩ | ⟨j, rfl, _, e⟩
            · refine wpAny_pure (q0 fun m => ?_)
              obtain ⟨j, e⟩ := List.mem_iff_getElem?.mp m
              rcases Nat.lt_or_ge j i with a | a
              · exact no j a e
              · exact plc_nil y hl j a e
            · exact wpAny_pure (q1 j e))
theorem get_mix {Q : Option Value → Shared → Prop} (hu : A.units + 8 < cLine) (hk : NestedIs s.heap k key) (dk : k.depth ≤ 8) (ho : s.heap.get? d = some o) (hd : o.data = .dict es ep) (y : Kys w s.heap ks es)
    (q0 : k ∉ ks → Q none { s with toks := s.toks + k.draws }) (q1 : ∀ (j : Nat) (x : DictEntry), ks[j]? = some k → es[j]? = some x → Q (some x.val) { s with toks := s.toks + k.draws }) : wpAny (model prog w) A (dictGet d key) Q E s := by
  unfold dictGet
  try with_reducible refine wpAny_holding ?_
  refine wpAny_bind (pyHash_key k key A s _ hk (by omega) (wpAny_bind (find_mix (s := { s with toks := s.toks + k.draws }) hu hk dk ho hd y ?_ ?_)))
  · exact fun n => wpAny_pure (q0 n)
  · intro j e
    obtain ⟨x, hx, _, _⟩ := y.rev e
    refine wpAny_bind (wpAny_dictEntries (s := { s with toks := s.toks + k.draws }) ho hd ?_)
    rw [hx]
    exact wpAny_pure (q1 j x e hx)
theorem item_mix {Q : Value → Shared → Prop} {j : Nat} {x : DictEntry} (hu : A.units + 9 < cLine) (hk : NestedIs s.heap k key) (dk : k.depth ≤ 8) (ho : s.heap.get? d = some o) (hx : o.ExactDict) (hd : o.data = .dict es ep) (y : Kys w s.heap ks es)
    (ej : ks[j]? = some k) (ex : es[j]? = some x) (q : Q x.val { s with toks := s.toks + k.draws }) : wpAny (model prog w) A (getItem (.ref d) key) Q E s := by
  have hT : s.TypeIs (.ref d) "dict" := ⟨o, ho, hx.1⟩
  have hu1 : A.in1.units + 8 < cLine := by show A.units + 1 + 8 < cLine; omega
  unfold getItem
  try with_reducible refine wpAny_holding ?_
  refine wpAny_bind (wpAny_sequenceKey hT (by decide) ?_)
  refine wpAny_bind (wpAny_callSpecial?_slot (name := Str.ofString "__getitem__") hT slot_dict_getitem (wpAny_call_entry slot_dict_getitem hT entry_dict_getitem ?_ (args_dict_getitem _ _)))
  show wpAny _ _ (dictGet d key >>= _) _ _ s
  refine wpAny_bind (get_mix hu1 hk dk ho hd y (fun n => absurd (List.mem_of_getElem? ej) n) fun i z e1 e2 => ?_)
  have := nd_at y.nd e1 ej
  subst this
  rw [ex] at e2
  cases e2
  exact wpAny_pure ⟨x.val, rfl, wpAny_pure q⟩
theorem setNew_mix {v : Value} {Q : Unit → Shared → Prop} (hu : A.units + 9 < cLine) (hk : NestedIs s.heap k key) (dk : k.depth ≤ 8) (ho : s.heap.get? d = some o) (hx : o.ExactDict) (hd : o.data = .dict es ep) (y : Kys w s.heap ks es)
    (hz : es.size ≤ sizeLine) (new : k ∉ ks) (q : ∀ h' o', h'.get? d = some o' → o'.ExactDict → o'.data = .dict (es.push ⟨k.hash w, key, v⟩) (ep + 1) → Heap.SameBut d s.heap h' → Q () { s with heap := h', toks := s.toks + k.draws }) :
    wpAny (model prog w) A (setItem (.ref d) key v) Q E s := by
  have hT : s.TypeIs (.ref d) "dict" := ⟨o, ho, hx.1⟩
  have hu1 : A.in1.units + 8 < cLine := by show A.units + 1 + 8 < cLine; omega
  unfold setItem
  try with_reducible refine wpAny_holding ?_
  refine wpAny_bind (wpAny_sequenceKey hT (by decide) ?_)
  refine wpAny_bind (wpAny_callSpecial?_slot (name := Str.ofString "__setitem__") hT slot_dict_setitem (wpAny_call_entry slot_dict_setitem hT entry_dict_setitem ?_ (args_dict_setitem _ _ _)))
  show wpAny _ _ (Builtin.Dict.notOrdered "__setitem__" ⟨[.ref d, key, v], []⟩ >>= _) _ _ s
  refine wpAny_bind (wpAny_notOrdered_dict hT ?_)
  show wpAny _ _ (dictSet d key v >>= _) _ _ s
  refine wpAny_bind ?_
  unfold dictSet
  try with_reducible refine wpAny_holding ?_
  refine wpAny_bind (pyHash_key k key A.in1 s _ hk (by omega) ?_)
  unfold dictSetHashed
  try with_reducible refine wpAny_holding ?_
  refine wpAny_bind (find_mix (s := { s with toks := s.toks + k.draws }) hu1 hk dk ho hd y (fun _ => ?_) fun j e => absurd (List.mem_of_getElem? e) new)
  refine wpAny_bind (wpAny_rule (wpAny_updateDictKeys (hz := hz) (s := { s with toks := s.toks + k.draws }) ho hd (wpAny_pure ⟨.none, rfl, wpAny_pure (q _ _ (Heap.get?_update_self _ ho (Obj.isFreed_of_dict (Obj.data_mapDictKeys hd _))) (hx.mapDictKeys _) (Obj.data_mapDictKeys hd _) (Heap.SameBut.update ..))⟩)))
end
end Rl
end
section
set_option maxHeartbeats 4000000
/-! dicts with mixed keys as things of the heap -/
namespace Rl
open PySem PySem.Spec PyProof.Rows L2
/-- a thing as a key -/
inductive KeyV (H : Hp) : V → NestedKey → Prop
  | non : KeyV H .non .none
  | bl (b : Bool) : KeyV H (.bl b) (.num (if b = true then 1 else 0))
  | int (i : Int) : KeyV H (.int i) (.num i)
  | str (z : Str) : KeyV H (.str z) (.text z)
  | tup {a : Addr} {zs : List Str} (h : H a = some (.tup (zs.map V.str))) : KeyV H (.ref a) (.tup (zs.map NestedKey.text))
theorem KeyV.at_ {H H' : Hp} {v : V} {k : NestedKey} (h : KeyV H v k) (s : ∀ a xs, H a = some (.tup xs) → H' a = some (.tup xs)) : KeyV H' v k := by
  cases h with
  | non => exact .non
  | bl b => exact .bl b
  | int i => exact .int i
  | str z => exact .str z
  | tup h => exact .tup (s _ _ h)
theorem KeyV.key {H : Hp} : ∀ k : Key, KeyV H (kV k) (match k with | .inl i => .num i | .inr z => .text z)
  | .inl i => .int i
  | .inr z => .str z
theorem texts_flat : ∀ zs : List Str, NestedKey.depthAll (zs.map NestedKey.text) = 0
  | [] => by simp [NestedKey.depthAll]
  | z :: zs => by
    rw [List.map_cons, NestedKey.depthAll, texts_flat zs, NestedKey.depth]
    rfl
theorem texts_all {h : Heap} : ∀ {zs : List Str} {us : List Value}, Vals (zs.map V.str) us → NestedAll h (zs.map NestedKey.text) us
  | [], us, r => by cases r; exact .nil
  | z :: zs, us, r => by
    cases r with
    | cons a t =>
      obtain ⟨tk, rfl⟩ := (show ∃ t, _ = Value.str z t from a)
      exact .cons (.text z tk) (texts_all t)
theorem KeyV.nested {P : Program} {w : World} {H : Hp} {h : Heap} {v : V} {u : Value} {k : NestedKey} (y : KeyV H v k) (ok : HOk P w H h) (r : RelV v u) : NestedIs h k u ∧ k.depth ≤ 8 := by
  cases y with
  | non => cases (show u = Value.none from r); exact ⟨.none, by simp [NestedKey.depth]⟩
  | bl b => cases (show u = Value.bool b from r); exact ⟨.bool rfl, by simp [NestedKey.depth]⟩
  | int i => obtain ⟨t, rfl⟩ := (show ∃ t, u = Value.int i t from r); exact ⟨.int i t, by simp [NestedKey.depth]⟩
  | str z => obtain ⟨t, rfl⟩ := (show ∃ t, u = Value.str z t from r); exact ⟨.text z t, by simp [NestedKey.depth]⟩
  | @tup a zs ha =>
    cases (show u = Value.ref a from r)
    obtain ⟨_, its, rv, o, h1, h2, n, h3⟩ := (show ObjOk P w H h a (.tup (zs.map V.str)) from ok a _ ha)
    refine ⟨.tup h1 h2 h3 (by simpa using texts_all rv), ?_⟩
    rw [NestedKey.depth, texts_flat]
    decide
/-- an entry -/
def EntO (w : World) (x : NestedKey × V × V) (e : DictEntry) : Prop := e.hash = x.1.hash w ∧ RelV x.2.1 e.key ∧ RelV x.2.2 e.val
/-- an object that is such a dict -/
structure OddO (w : World) (o : Obj) (xs : List (NestedKey × V × V)) : Prop where
  ex : o.ExactDict
  da : ∃ es ep, o.data = .dict es ep ∧ Paired (EntO w) xs es.toList
  nd : (xs.map (·.1)).Nodup
/-- such a dict stands at p -/
def OddD (w : World) (H : Hp) (p : Addr) (xs : List (NestedKey × V × V)) : Prop := ∃ o, H p = some (DN p o) ∧ OddO w o xs ∧ (p == sysModules) = false ∧ xs.length ≤ sizeLine ∧ ∀ x ∈ xs, KeyV H x.2.1 x.1
theorem OddD.at_ {w : World} {H H' : Hp} {p : Addr} {xs : List (NestedKey × V × V)} (h : OddD w H p xs) (kp : ∀ o, H p = some (DN p o) → H' p = some (DN p o)) (kt : ∀ a l, H a = some (.tup l) → H' a = some (.tup l)) : OddD w H' p xs := by
  obtain ⟨o, e, a, b, c, d⟩ := h
  exact ⟨o, kp o e, a, b, c, fun x m => (d x m).at_ kt⟩
theorem paired_at {α β : Type} {F : α → β → Prop} : ∀ {l : List α} {m : List β} {i : Nat} {b : β}, Paired F l m → m[i]? = some b → ∃ a, l[i]? = some a ∧ F a b
  | _, _, _, _, .nil, e => by simp at e
  | _, _, 0, _, .cons h _, e => by simp at e; subst e; exact ⟨_, rfl, h⟩
  | _, _, i + 1, _, .cons _ t, e => by
    obtain ⟨a, h1, h2⟩ := paired_at (i := i) t (by simpa using e)
    exact ⟨a, by simpa using h1, h2⟩
theorem kys_of {P : Program} {w : World} {H : Hp} {h : Heap} {xs : List (NestedKey × V × V)} {es : Array DictEntry} (ok : HOk P w H h) (pr : Paired (EntO w) xs es.toList) (nd : (xs.map (·.1)).Nodup) (all : ∀ x ∈ xs, KeyV H x.2.1 x.1) : Kys w h (xs.map (·.1)) es where
  sz := by have := pr.length; rw [Array.length_toList] at this; rw [List.length_map]; exact this.symm
  ent := fun i x e => by
    obtain ⟨y, hy, h1, h2, _⟩ := paired_at pr (by rw [Array.getElem?_toList]; exact e)
    obtain ⟨a, b⟩ := (all y (List.mem_of_getElem? hy)).nested ok h2
    exact ⟨y.1, by rw [List.getElem?_map, hy]; rfl, h1, a, b⟩
  nd := nd
/-- the entries of a dict of ints and texts -/
def ofK (p : Key × V) : NestedKey × V × V := ((match p.1 with | .inl i => .num i | .inr z => .text z), kV p.1, p.2)
theorem ofK_inj {p q : Key × V} (e : (ofK p).1 = (ofK q).1) : p.1 = q.1 := by
  obtain ⟨p1, p2⟩ := p
  obtain ⟨q1, q2⟩ := q
  cases p1 <;> cases q1 <;> simp [ofK] at e <;> simp [e]
theorem ofK_nd : ∀ {l : List (Key × V)}, (l.map (·.1)).Nodup → ((l.map ofK).map (·.1)).Nodup
  | [], _ => by simp
  | p :: l, h => by
    rw [List.map_cons, List.nodup_cons] at h
    rw [List.map_cons, List.map_cons, List.nodup_cons]
    refine ⟨fun m => h.1 ?_, ofK_nd h.2⟩
    rw [List.map_map] at m
    obtain ⟨q, hq, e⟩ := List.mem_map.mp m
    exact List.mem_map.mpr ⟨q, hq, ofK_inj e⟩
theorem ofK_ent {P : Program} {w : World} : ∀ {kvs : List (Key × V)} {vs : List (Key × Value)} {es : List DictEntry}, KV kvs vs → Pairs (mixKind P w) es vs → (∀ e ∈ es, ∃ k, (mixKind P w).is k e.key = true ∧ e.hash = (mixKind P w).hash k) → Paired (EntO w) (kvs.map ofK) es
  | [], _, _, r, p, _ => by cases r; cases p; exact .nil
  | kv :: kvs, _, _, .cons h t, .cons h1 h2 h3, hk => by
    obtain ⟨k, hk1, hk2⟩ := hk _ List.mem_cons_self
    have ek := (mixKind P w).inj _ _ _ hk1 h1
    subst ek
    rename_i kv2 _ e es
    obtain ⟨e1, e2⟩ := h
    refine .cons ⟨?_, ?_, ?_⟩ (ofK_ent t h3 fun x m => hk x (List.mem_cons_of_mem _ m))
    · rw [hk2, ← e1]
      obtain ⟨c, v⟩ := kv
      cases c <;> rfl
    · show RelV (kV kv.1) e.key
      rw [e1]
      exact relV_key (show keyIs kv2.1 e.key = true from h1)
    · show RelV kv.2 e.val
      rw [h2]; exact e2
section
variable {X : Cx} {pins : List (Addr × Obj)} {σ : L2.St} {H : Hp} {s : Shared}
/-- d[k] = v, k new in a dict of ints and texts, of any kind -/
def rSetO (w : World) : TSet := fun o i v H Q => ∃ a kvs k, o = .ref a ∧ H a = some (.dK kvs) ∧ KeyV H i k ∧ k ∉ (kvs.map ofK).map (·.1) ∧ kvs.length < sizeLine ∧ ∀ o', OddD w (upd H a (DN a o')) a (kvs.map ofK ++ [(k, i, v)]) → Q (upd H a (DN a o'))
theorem paired_snoc {α β : Type} {F : α → β → Prop} {l : List α} {m : List β} {a : α} {b : β} (p : Paired F l m) (h : F a b) : Paired F (l ++ [a]) (m ++ [b]) := p.snoc h
theorem set_oddK (hu : X.A.units + 9 < cLine) : PSet X (rSetO X.w) := by
  intro pins s σ H o i v ov iv u Q I ro ri rv h
  obtain ⟨a, kvs, k, rfl, ha, ky, new, lt, q⟩ := h
  cases (show ov = Value.ref a from ro)
  obtain ⟨z, hs, vs, rel, oo, es, ep, ho, hx, hd, hk, hp, hn⟩ := dk_of I.hok ha
  have pr := ofK_ent (w := X.w) rel hp fun e m => hk e (Array.mem_toList_iff.mp m)
  have kn : (kvs.map (·.1)).Nodup := by
    have : kvs.map (·.1) = vs.map (·.1) := by
      clear hp pr hn z lt ha ky new q
      induction rel with
      | nil => rfl
      | cons h t ih => rw [List.map_cons, List.map_cons, h.1, ih]
    rw [this]; exact hn
  have all : ∀ x ∈ kvs.map ofK, KeyV H x.2.1 x.1 := fun x m => by
    obtain ⟨p, _, rfl⟩ := List.mem_map.mp m
    exact KeyV.key p.1
  obtain ⟨n1, n2⟩ := ky.nested I.hok ri
  have ks := kys_of I.hok pr (ofK_nd kn) all
  refine setNew_mix hu n1 n2 ho hx hd ks (by rw [ks.sz, List.length_map, List.length_map]; exact Nat.le_of_lt lt) new fun h' o' g' x' d' sb => ?_
  have J := d_write (X := X) (t' := s.toks + k.draws) I (by rw [ha]; exact True.intro) sb ⟨o', g'⟩ (dn_ok (H := upd H a (DN a o')) g')
  have od : OddO X.w o' (kvs.map ofK ++ [(k, i, v)]) := ⟨x', ⟨_, _, d', by
      have := paired_snoc (b := (⟨k.hash X.w, iv, u⟩ : DictEntry)) pr (show EntO X.w (k, i, v) ⟨k.hash X.w, iv, u⟩ from ⟨rfl, ri, rv⟩)
      simpa using this⟩, by
    rw [List.map_append, List.nodup_append]
    exact ⟨ofK_nd kn, by simp, fun x hx y hy e => by
      have : y = k := by simpa using hy
      subst this; subst e; exact new hx⟩⟩
  refine ⟨_, J, q o' ⟨o', upd_same, od, hs, by rw [List.length_append, List.length_map]; exact lt, fun x m => ?_⟩⟩
  have kt : ∀ b l, H b = some (.tup l) → (upd H a (DN a o')) b = some (.tup l) := fun b l e => by rw [upd_ne (fun z => by subst z; rw [ha] at e; cases e)]; exact e
  rcases List.mem_append.mp m with m | m
  · exact (all x m).at_ kt
  · have : x = (k, i, v) := by simpa using m
    subst this
    exact ky.at_ kt
/-- isinstance(d, c) -/
def rIsiO (w : World) (K : PySem.W.Frag) : List V → Hp → VK → Prop := fun xs H Q => ∃ (p : Addr) (c : V) (u : Value) (b : Bool) (es : List (NestedKey × V × V)), xs = [.ref p, c] ∧ ClsV c u ∧ OddD w H p es ∧ PySem.W.kitOne K (.type "dict") u = some b ∧ Q (.bl b) H
theorem call_isiO : CallR X (.builtin "isinstance") (rIsiO X.w X.K) := by
  intro pins s σ H xs us Q I r h
  obtain ⟨p, c, u, b, es, rfl, k, ⟨o, hp, od, _⟩, e, q⟩ := h
  obtain ⟨u1, u2, rfl, r1, r2⟩ := vals2 r
  cases (show u1 = Value.ref p from r1)
  have e2 := k.eq r2
  subst e2
  exact PySem.W.kia_one PySem.W.kitx_dict I.kIn ⟨o, dn_get I hp, od.ex.1⟩ e (fun z => nomatch z) fun tk => ⟨.bl b, H, I.tok tk, rfl, q⟩
/-- d[k] -/
def tGetO (w : World) (td ty : TE) : TE := fun σ H Q => td σ H fun x H1 => ty σ H1 fun y H2 => ∃ (a : Addr) (es : List (NestedKey × V × V)) (k : NestedKey) (kv v : V), x = .ref a ∧ OddD w H2 a es ∧ KeyV H2 y k ∧ (k, kv, v) ∈ es ∧ Q v H2
theorem pe_getO {o i : Expr} {td ty : TE} {pos : Pos} {W : World} (hW : X.w = W) (hu : X.A.units + 9 < cLine) (ho : PE X o td) (hi : PE X i ty) (hs : NoSl i) : PE X (.Subscript o i pos) (tGetO W td ty) := by
  subst hW
  refine ⟨fun pins s σ H Q I h => ?_⟩
  refine subD_of PySem.F.slot_dict_getitem.lookup hs (thn (ho.run pins s σ H _ I h) fun u s1 ⟨x, H1, I1, rx, q1⟩ => thn (hi.run pins s1 σ H1 _ I1 q1) fun iv s2 ⟨y, H2, I2, ry, a, es, k, kv, v, ex, ⟨oo, hp, od, hsy, lz, all⟩, ky, m, q2⟩ => ?_)
  subst ex
  obtain rfl : u = Value.ref a := rx
  have g := dn_get I2 hp
  obtain ⟨ee, ep, hd, pr⟩ := od.da
  obtain ⟨n1, n2⟩ := ky.nested I2.hok ry
  have ks := kys_of I2.hok pr od.nd all
  obtain ⟨j, hj⟩ := List.mem_iff_getElem?.mp m
  have e1 : (es.map (·.1))[j]? = some k := by rw [List.getElem?_map, hj]; rfl
  obtain ⟨x, hx, _, _⟩ := ks.rev e1
  obtain ⟨y2, hy2, h1, h2, h3⟩ := paired_at pr (by rw [Array.getElem?_toList]; exact hx)
  rw [hj] at hy2
  cases hy2
  exact ⟨⟨oo, g, od.ex.1⟩, item_mix hu n1 n2 g od.ex hd ks e1 hx ⟨v, H2, I2.tok _, h3, q2⟩⟩
/-- for k in d -/
def ItO (p : Addr) (o : Obj) (es : List (NestedKey × V × V)) : It := ⟨fun i H => H p = some (DN p o) ∧ i < es.length, fun i H x H' => H' = H ∧ ∃ r, es[i]? = some r ∧ x = r.2.1, fun i H => H p = some (DN p o) ∧ es.length ≤ i⟩
theorem turn_keysO {P : Program} {w : World} {K : PySem.W.Frag} {tg : Expr} {d : Addr} {o : Obj} {es : List (NestedKey × V × V)} {ee : Array DictEntry} {ep : Nat} (it : Addr) (hod : o.data = .dict ee ep) (pr : Paired (EntO w) es ee.toList) : Turn P w K tg (ItO d o es) [it] it (fun i h => h.IsKeyIter it d i es.length ep) where
  mem := by simp
  obj := fun i h st b hb => by
    have e : b = it := by simpa using hb
    subst e
    obtain ⟨oi, e, c, dd⟩ := st
    exact ⟨oi, e, fun v z => by rw [dd] at z; cases z⟩
  keep := fun i h h' st k => st.at fun oi e => k it (by simp) oi e
  item := by
    intro X hP hw hK hc i pins s σ H E I hf st hg
    subst hP hw hK
    obtain ⟨hd, hi⟩ := hg
    obtain ⟨f0, f1, f2, f3, f4, f5⟩ := hf it (by simp)
    have hgd := dn_get I hd
    have sz : ee.size = es.length := by have := pr.length; rw [Array.length_toList] at this; exact this.symm
    have lt : i < ee.size := by rw [sz]; exact hi
    obtain ⟨r, hr, h1, h2, h3⟩ := paired_at (i := i) pr (by rw [Array.getElem?_toList]; exact Array.getElem?_eq_getElem lt)
    refine next_key_item st hgd hod sz (Array.getElem?_eq_getElem lt) fun h' st' sb => ?_
    have I1 : Inv X pins σ H { s with heap := h' } := I.turned (t' := s.toks) (fun b ob hb e => (sb.2 b hb).trans e) f0 f1 f3 f4 f5
    obtain ⟨oi, e, c, dd⟩ := id st'
    exact ⟨_, rfl, go_of (s := { s with heap := h' }) e c dd (by decide) ⟨r.2.1, H, I1, h2, ⟨rfl, r, hr, rfl⟩, st', fun b hb => (hf b hb).1⟩⟩
  done := by
    intro X hP hw hK hc i pins s σ H E I hf st hg
    subst hP hw hK
    obtain ⟨hd, hi⟩ := hg
    obtain ⟨f0, f1, f2, f3, f4, f5⟩ := hf it (by simp)
    have hgd := dn_get I hd
    have sz : ee.size = es.length := by have := pr.length; rw [Array.length_toList] at this; exact this.symm
    exact next_key_end (I.ok.hd hc) st hgd hod sz hi fun h' eb => ⟨rfl, I.turned (t' := s.toks) (fun b ob hb e => eb b ob hb e) f0 f1 f3 f4 f5⟩
  self := fun A i s Q E st h => wpAny_pyIter_keyiter st h
def iKeysO (w : World) (td : TE) : TI := fun σ H R => td σ H fun x H1 => ∃ p o es, x = .ref p ∧ H1 p = some (DN p o) ∧ OddO w o es ∧ (p == sysModules) = false ∧ R (ItO p o es) H1
theorem pi_keysO {tg e : Expr} {td : TE} (he : PE X e td) : PI X tg e (iKeysO X.w td) := by
  refine ⟨fun pins s σ H R I h => ?_⟩
  refine thn (he.run pins s σ H _ I h) fun u s1 ⟨x, H1, I1, rx, p, o, es, ex, hp, od, hs, q⟩ => ?_
  subst ex
  obtain rfl : u = Value.ref p := rx
  have hgd := dn_get I1 hp
  obtain ⟨ee, ep, hdt, pr⟩ := od.da
  have sz : ee.size = es.length := by have := pr.length; rw [Array.length_toList] at this; exact this.symm
  refine iter_keys hs hgd od.ex hdt (pi_one (tk := s1.toks) I1 _ (turn_keysO _ hdt pr) ⟨_, Heap.get?_push_size _ rfl, rfl, ?_⟩ q)
  rw [sz] <;> rfl
end
end Rl
end
section
set_option maxHeartbeats 4000000
namespace Nl
open PySem PySem.Spec PyProof.Rows L2 Nt
/-! ### wrong_keys of dicts with mixed keys -/
theorem walk_keysO {d : Addr} {o : Obj} {es : List (NestedKey × V × V)} : Walk (Rl.ItO d o es) es.length (fun H => H d = some (Rl.DN d o)) (fun i H x H' => H' = H ∧ ∃ r, es[i]? = some r ∧ x = r.2.1) :=
  ⟨fun _ _ hi q => ⟨q, hi⟩, fun _ q => ⟨q, Nat.le_refl _⟩, fun _ _ _ _ _ _ y => y⟩
abbrev Rw := NestedKey × V × V
/-- the row is right: a pond, a whole number from 0 on -/
def goodR (B : Br) : Rw → Bool
  | (.text z, _, .int i) => decide (z ∈ nms B) && decide (i ≥ 0)
  | _ => false
/-- a value of any kind -/
def ValK (K : PySem.W.Frag) (H : Hp) (v : V) : Prop := (∃ i : Int, v = .int i) ∨ (∃ t : Value, TyOf K H v t ∧ PySem.W.kitOne K t (.type "int") = some false) ∨ ∃ b, v = .bl b
theorem ValK.same {K : PySem.W.Frag} {H H' : Hp} {v : V} (h : ValK K H v) (s : Same H H') : ValK K H' v := h.imp id (Or.imp (fun ⟨t, a, b⟩ => ⟨t, TyOf.sameX a s, b⟩) id)
/-- a row of any kind -/
def RowK (K : PySem.W.Frag) (H : Hp) (r : Rw) : Prop := (∃ z, r.1 = .text z ∧ r.2.1 = .str z ∧ Sm 25 z ∧ ValK K H r.2.2) ∨ ((∀ z, r.1 ≠ .text z) ∧ Odd K H r.2.1)
theorem RowK.same {K : PySem.W.Frag} {H H' : Hp} {r : Rw} (h : RowK K H r) (s : Same H H') : RowK K H' r := h.imp (fun ⟨z, a, b, c, d⟩ => ⟨z, a, b, c, d.same s⟩) (fun ⟨a, b⟩ => ⟨a, b.same s⟩)
/-- the wrong keys -/
def wrongs (B : Br) (es : List Rw) : List V := (es.filter fun r => !goodR B r).map (·.2.1)
theorem wrongs_le (B : Br) (es : List Rw) : (wrongs B es).length ≤ es.length := by unfold wrongs; rw [List.length_map]; exact List.length_filter_le _ _
theorem wrongs_snoc (B : Br) (es : List Rw) {i : Nat} {r : Rw} (h : es[i]? = some r) : wrongs B (es.take (i + 1)) = wrongs B (es.take i) ++ (if goodR B r then [] else [r.2.1]) := by
  unfold wrongs
  rw [List.take_add_one, h, List.filter_append, List.map_append]
  cases e : goodR B r <;> simp [e]
theorem hu9_of {A : Around} {k : Nat} (hr : Room k A) : A.units + 9 < cLine := by have := hr.units; omega
theorem cut_first (l : List V) : cutV l none (some 1) = l.take 1 := by
  unfold cutV
  have e1 : HT.sIx l.length 0 none = 0 := rfl
  have e2 : HT.sIx l.length l.length (some 1) = min 1 l.length := by
    cases l with
    | nil => rfl
    | cons x t =>
      rw [List.length_cons]
      simp [HT.sIx]
      try omega
  rw [e1, e2, List.drop_zero, Nat.sub_zero]
  cases l with
  | nil => rfl
  | cons x t => rw [List.length_cons, Nat.min_eq_left (by omega)]
section
variable {P : Program} {w : World} {K : PySem.W.Frag} {mg : Str → Option Value} {base : Heap}
def spWrongO (w : World) (K : PySem.W.Frag) (C : Addr) : Sp := fun vs H Q _ => ∃ (n a : Addr) (B : Br) (Pp : Pi) (es : List Rw), vs = [.ref n, .ref a] ∧ NetAt C H n B Pp ∧ Good B Pp ∧ Rl.OddD w H a es ∧ es.length ≤ 100 ∧ (∀ r ∈ es, RowK K H r) ∧
  ∀ H' p, Same H H' → H p = none → H' p = some (.lst ((wrongs B es).take 1)) → Q (.ref p) H'
theorem ok_wrongO {f C f1 f2 : Addr} {fd fd1 fd2 : FuncData} (F : Fun K "wrong_keys" "wrong_keys" sWrong f fd) (T : TxN K mg C)
    (m1 : Meth K C "has_pond" f1) (G1 : FnOk P w K mg base CX0 3 f1 fd1 ["self", "thing"] (spHasT K C)) (b1 : Binds K fd1 ["self", "thing"] [])
    (F2 : Fun K "is_whole" "is_whole" sWhole f2 fd2) (G2 : FnOk P w K mg base CX0 1 f2 fd2 ["thing", "least"] spWhole) (GX2 : FnOk P w K mg base CX0 1 f2 fd2 ["thing", "least"] (spWholeY K)) (b2 : Binds K fd2 ["thing", "least"] []) (g2 : mg "is_whole" = some (.ref f2))
    (mi : mg "isinstance" = none) (md : mg "dict" = none) : FnOk P w K mg base CX0 4 f fd ["net", "table"] (spWrongO w K C) := by
  refine F.ok scWrong (fun vs H Q E h => ?_) (fun cdv A outer s H vs Q E hr h => ?_)
  · obtain ⟨n, a, B, Pp, es, rfl, _⟩ := h
    rfl
  · obtain ⟨n, a, B, Pp, es, rfl, N, good, ⟨o, ha, od, lo, lz, all⟩, l100, rk, q⟩ := h
    refine ⟨_, pss_cons (ps_if (pt_cmp (pc_isN (pv 1))) (pss_one ps_never) pss_nil)
      (pss_cons (ps_if (pt_not (pt_val (pe_callB Rl.call_isiO (by rfl) mi (by decide +kernel) (pa_cons (pv 1) (pa_cons (pe_bltn (v := .ty "dict") (by rfl) md (by decide +kernel) rfl) pa_nil))))) (pss_one ps_never) pss_nil)
      (pss_one (ps_ret (pe_slice sl_list (pe_lc (own := [("key", 2)]) (g := gName 2) rfl scWrong.nd (Rl.pi_keysO (pv 1))
        (blkOk_by (N := ["net", "table", "key"]) (sc := defScope sWrong) (by decide +kernel)) (fun _ _ _ _ _ => pg_name (i := 2) scWrong.nd rfl (Or.inl rfl))
        (fun _ _ _ _ _ => pts_one (PW.pt (pw_or (pt_not (pt_val (pe_meth (pv 0) T.cl m1 G1 hr b1 .nil pass0 (pa_cons (pv 2) pa_nil)))) (pw_or1 (pt_not (pt_val (pe_call (fnok_or G2 GX2) (hr.mono (by decide)) (by rfl) g2 F2.kp b2 .nil pass0 (pa_cons (Rl.pe_getO (W := w) rfl (hu9_of hr) (pv 1) (pv 2) (fun _ _ => rfl)) (pa_cons pe_int pa_nil)))))))))
        (fun _ _ _ _ _ => pv 2)) po_none (po_some pe_int))))), ?_⟩
    refine ⟨.ref a, rfl, false, rfl, iteF ⟨.ref a, rfl, a, .ty "dict", .type "dict", true, es, rfl, .ty _, ⟨o, ha, od, lo, lz, all⟩, kit_ty (by decide +kernel), true, rfl, iteF ?_⟩⟩
    refine ⟨.ref a, rfl, a, o, es, rfl, ha, od, lo, fun D nD => ?_⟩
    have s1 := same_new (o := .lst []) nD
    have lt0 : ∀ i, (wrongs B (es.take i)).length < sizeLine := fun i => small1000 (by
      have h1 := wrongs_le B (es.take i)
      have h2 : (es.take i).length ≤ es.length := by rw [List.length_take]; omega
      omega)
    refine lc_it (n := es.length) walk_keysO (fun i H1 => H1 D = some (.lst (wrongs B (es.take i))) ∧ (∀ x o, x ≠ D → (upd H D (.lst [])) x = some o → H1 x = some o)) ⟨upd_same, fun x o _ e => e⟩ (fun i H1 _ h => ?_) ?_ ?_
    · exact h.2 a _ (ne_of_none ha nD) (s1 a _ ha)
    · rintro i x H1 H1' hi ⟨hD, kp⟩ ⟨rfl, r, hr2, rfl⟩
      have mr : r ∈ es := List.mem_of_getElem? hr2
      have s01 : Same H H1' := fun x o e => kp x o (ne_of_none e nD) (s1 x o e)
      have N1 : NetRd C H1' n B := by
        obtain ⟨dx, d1, d2, hn, h1, h2⟩ := N.at_
        exact ⟨dx, d1, d2, s01 _ _ hn, .inl (s01 _ _ h1)⟩
      obtain ⟨dx', d1', d2', hn', _⟩ := id N1
      have snoc := wrongs_snoc B es hr2
      have bad : ∀ {H2 : Hp}, Same H1' H2 → goodR B r = false → ∃ acc, H2 D = some (.lst acc) ∧ acc.length < sizeLine ∧ ((upd H2 D (.lst (acc ++ [r.2.1]))) D = some (.lst (wrongs B (es.take (i + 1)))) ∧ (∀ x o, x ≠ D → (upd H D (.lst [])) x = some o → (upd H2 D (.lst (acc ++ [r.2.1]))) x = some o)) := fun {H2} s2 g =>
        ⟨wrongs B (es.take i), s2 D _ hD, lt0 i, by rw [upd_same, snoc, g]; rfl, fun x o ne e => by rw [upd_ne ne]; exact s2 x o (kp x o ne e)⟩
      rcases rk r mr with ⟨z, rz, vz, sm, vk⟩ | ⟨nz, oz⟩
      · refine ⟨rfl, .ref n, rfl, n, dx', _, rfl, hn', no_attr, .str z, by rw [← vz]; rfl, .inl ⟨n, B, z, rfl, N1, sm, fun H2 s2 => ?_⟩⟩
        by_cases mz : z ∈ nms B
        · have nz : nameB z = true := by
            obtain ⟨x, hx, ex⟩ := List.mem_map.mp mz
            rw [← ex]
            exact (good.wf.rb x hx).1
          rw [nz, decide_eq_true mz]
          refine ⟨true, rfl, iteF ?_⟩
          have OD : Rl.OddD w H2 a es := Rl.OddD.at_ ⟨o, ha, od, lo, lz, all⟩ (fun o e => s2 a _ (s01 a _ e)) fun b l e => s2 b _ (s01 b _ e)
          refine ⟨.ref a, rfl, .str z, by rw [← vz]; rfl, a, es, .text z, r.2.1, r.2.2, rfl, OD, .str z, by rw [← rz]; exact mr, ?_⟩
          obtain ⟨r1, r2, r3⟩ := r
          cases (show r1 = NestedKey.text z from rz)
          rcases (vk.same s01).same s2 with ⟨i', e⟩ | ⟨t, ty, kt⟩ | ⟨b, e⟩
          · cases (show r3 = .int i' from e)
            refine .inl ⟨i', 0, rfl, ?_⟩
            by_cases hi0 : i' ≥ 0
            · rw [decide_eq_true hi0]
              refine ⟨true, rfl, iteF ⟨?_, fun x o ne e => s2 x o (kp x o ne e)⟩⟩
              rw [s2 D _ hD, snoc]
              simp [goodR, mz, hi0]
            · rw [decide_eq_false hi0]
              exact ⟨false, rfl, iteT ⟨_, rfl, bad s2 (by simp [goodR, hi0])⟩⟩
          · refine .inr ⟨r3, 0, rfl, .inl ⟨t, ty, kt⟩, false, rfl, iteT ⟨_, rfl, bad s2 ?_⟩⟩
            cases r3 <;> first | rfl | (exfalso; cases ty; have c : PySem.W.kitOne K (.type "int") (.type "int") = some true := kit_ty (by decide +kernel); rw [c] at kt; cases kt)
          · cases (show r3 = .bl b from e)
            exact .inr ⟨.bl b, 0, rfl, .inr ⟨b, rfl⟩, false, rfl, iteT ⟨_, rfl, bad s2 rfl⟩⟩
        · rw [decide_eq_false mz, Bool.and_false]
          refine ⟨false, rfl, iteT ⟨_, rfl, bad s2 ?_⟩⟩
          obtain ⟨r1, r2, r3⟩ := r
          cases (show r1 = NestedKey.text z from rz)
          cases r3 <;> simp [goodR, mz]
      · refine ⟨rfl, .ref n, rfl, n, dx', _, rfl, hn', no_attr, r.2.1, rfl, .inr ⟨n, B, r.2.1, rfl, N1, oz.same s01, fun H2 s2 => ?_⟩⟩
        refine ⟨false, rfl, iteT ⟨_, rfl, bad s2 ?_⟩⟩
        obtain ⟨r1, r2, r3⟩ := r
        cases r1 <;> first | rfl | exact absurd rfl (nz _)
    · rintro H1 ⟨hD, kp⟩
      refine ⟨1, rfl, D, wrongs B es, rfl, SqL.of (by rw [hD, List.take_length]), fun p np => ?_⟩
      rw [cut_first]
      have s01 : Same H H1 := fun x o e => kp x o (ne_of_none e nD) (s1 x o e)
      exact q _ p (s01.trans (same_new np)) (s01.free np) upd_same
end
end Nl
end
section
set_option maxHeartbeats 2000000
/-! a list of texts in the braces of an f-string: some text of bounded length, whatever else is being shown -/
namespace Rl
open PySem PySem.Spec PyProof.Rows L2
theorem lst_len : ∀ ts : List Str, (listText ts).length ≤ piled ts + 2
  | [] => by decide +kernel
  | t :: r => by
    have h := textFrom_length_pos r 1 (("[" : Str) ++ (if (0 : Nat) > 0 then ", " else "" : String) ++ t) (Nat.succ_pos 0)
    have e : ((("[" : Str) ++ (if (0 : Nat) > 0 then ", " else "" : String) ++ t)).length = 1 + t.length := by
      rw [strLen_append, strLen_append]; rfl
    have hX : (listText (t :: r)).length = (textFrom 1 (("[" : Str) ++ (if (0 : Nat) > 0 then ", " else "" : String) ++ t) r).length + 1 := by
      show (textFrom 0 "[" (t :: r) ++ "]").length = _
      rw [strLen_append]; rfl
    rw [hX, h, e, piled_cons]; omega
section
variable {prog : Program} {w : World} {A : Around} {E : Value → Shared → Prop} {s : Shared}
theorem lst_head {Q : Fin → Shared → Prop} {a : Addr} {o : Obj} {x : Value} {l : List Value} {n : Nat} (hget : s.heap.get? a = some o) (hd : o.data = .seq (x :: l).toArray n)
    (h1 : wpAny (model prog w) A (do rule "list.__repr__.in-itself"; retStr "[...]") Q E s)
    (h2 : wpAny (model prog w) A (do again (.builtin "list.__repr__.loop" ⟨[.ref a, rawInt 0, ← newList [], rawInt ((0 : Nat) : Int)], []⟩)) Q E s) : wpAny (model prog w) A (Builtin.listReprAt 0 ⟨[.ref a], []⟩) Q E s := by
  intro Γ p hΓ
  have g1 := h1 Γ p hΓ
  have g2 := h2 Γ p hΓ
  unfold Builtin.listReprAt
  simp [slotArgs, Builtin.List.listItems, seqItems?, Sem.wp_load_of (h := hget), hd, stack]
  show Sem.wp _ Γ (if (Γ.below.any _) = true then _ else _) _ _ p s
  split
  · exact g1
  · exact g2
theorem lst_fin {R : Result → Shared → Prop} {a : Addr} {o : Obj} {x : Value} {l : List Value} {n : Nat} {ts : List Str} (ha : s.heap.get? a = some o) (hd : o.data = .seq (x :: l).toArray n) (hlen : ts.length = (x :: l).toArray.size)
    (hT : ∀ (i : Nat) (y : Value), (x :: l).toArray[i]? = some y → ∃ t, ts[i]? = some t ∧ ReprIs prog w y t) (hsz : (listText ts).length ≤ sizeLine)
    (hQ : ∀ (m : Str) h' (u tk : Tok), (∀ b o, s.heap.get? b = some o → h'.get? b = some o) → m.length ≤ (listText ts).length + 5 → R (.ok (.ret (.str m u))) { s with heap := h', toks := tk }) :
    wpAny (model prog w) A.in1 (Builtin.listReprAt 0 ⟨[.ref a], []⟩)
      (fun fin s' => match fin with | .done f => R (.ok f) s' | .again c' => c'.quiet = true ∧ codeAny (model prog w) A c' R s') (fun e s' => R (.error e) s') s := by
  refine lst_head ha hd ?_ ?_
  · refine wpAny_bind (wpAny_rule ?_)
    refine wpAny_bind (wpAny_mkStr (wpAny_pure ?_) (show ("[...]" : Str).length ≤ sizeLine by decide +kernel))
    exact hQ "[...]" s.heap _ _ (fun _ _ e => e) (Nat.le_trans (show ("[...]" : Str).length ≤ 5 by decide +kernel) (Nat.le_add_left _ _))
  · refine wpAny_bind (m := newList []) (wpAny_newObj_type ?_)
    refine wpAny_pure ⟨F.quiet_list_repr_loop _, ?_⟩
    refine codeAny_list_repr_start (P := s.heap.objs.size) (Nat.ne_of_lt (Heap.lt_size ha)) hlen hT (Heap.get?_push_of_some _ ha) hd (Heap.get?_push_size _ rfl) (fun h' u tk hk => ?_) (by omega)
    exact hQ _ h' u tk (fun b o e => hk b o (Nat.ne_of_lt (Heap.lt_size e)) (Heap.get?_push_of_some _ e)) (Nat.le_add_right _ _)
/-- list.__repr__ of a list that holds something, whatever is under way -/
theorem lst_shown {a : Addr} {o : Obj} {x : Value} {l : List Value} {n : Nat} {ts : List Str} {Q : Value → Shared → Prop} (ha : s.heap.get? a = some o) (hc : o.cls = .type "list") (hd : o.data = .seq (x :: l).toArray n) (hlen : ts.length = (x :: l).toArray.size)
    (hT : ∀ (i : Nat) (y : Value), (x :: l).toArray[i]? = some y → ∃ t, ts[i]? = some t ∧ ReprIs prog w y t) (hsz : (listText ts).length ≤ sizeLine)
    (hQ : ∀ (m : Str) h' (u tk : Tok), (∀ b o, s.heap.get? b = some o → h'.get? b = some o) → m.length ≤ (listText ts).length + 5 → Q (.str m u) { s with heap := h', toks := tk }) :
    wpAny (model prog w) A (call (.builtin "list.__repr__") [.ref a]) Q E s :=
  wpAny_call (codeAny_call_builtin F.slot_list_repr.plain F.entry_list_repr (F.slot_list_repr.check _ _ _ _ _ _ _ _ ⟨o, ha, hc⟩ (F.args_list_repr_1 _)
    (lst_fin (R := fun r s' => match r with | .ok (.ret v) => Q v s' | .ok _ => False | .error e => E e s') ha hd hlen hT hsz hQ)))
end
section
variable {X : Cx}
/-- {l}, l a list of texts, not empty: some text, no longer than ten times its signs and a little -/
def tFmtL (K : PySem.W.Frag) (te : TE) : TE := fun σ H Q => te σ H fun x H1 => ∃ (a : Addr) (y : Str) (l : List Str), x = .ref a ∧ SqL K H1 a ((y :: l).map V.str) ∧ (∀ z ∈ y :: l, ∀ c ∈ z.cps.toList, c < 16 ^ 8) ∧ fmtCost (y :: l) + 7 ≤ sizeLine ∧ ∀ m : Str, m.length ≤ fmtCost (y :: l) + 7 → Q (.str m) H1
theorem pe_fmtL {e : Expr} {te : TE} {pos : Pos} {k : Nat} (hr : Room k X.A) (he : PE X e te) : PE X (.FormattedValue e (-1) none pos) (tFmtL X.K te) := by
  refine ⟨fun pins s σ H Q I h => ?_⟩
  refine wpAny_FormattedValue_plain (thn (he.run pins s σ H _ I h) fun v s1 hv => ?_)
  obtain ⟨x, H1, I1, r1, a, y, l, rfl, ht, hc, hz, q⟩ := hv
  cases r1
  obtain ⟨its, rv, ⟨o, n, ho, hcl, _, hd⟩, _⟩ := I1.list ht
  have hp := fmt_piled (y :: l) hc
  have htx := lst_len ((y :: l).map reprText)
  have hu := hr.units
  cases rv with
  | @cons _ u0 _ ur ra rw' =>
  have hall : ReprAll X.prog X.w (u0 :: ur) ((y :: l).map reprText) := repr_all (.cons ra rw') fun z hz' => by
    have h1 := StrLaws.reprText_len z (hc z hz')
    have h2 := fmtCost_mem hz'
    omega
  have hlen := hall.length_eq
  have hat : ∀ {as : List Value} {ts : List Str}, ReprAll X.prog X.w as ts → ∀ (i : Nat) (v : Value), as[i]? = some v → ∃ t, ts[i]? = some t ∧ ReprIs X.prog X.w v t := fun {as ts} h => by
    induction h with
    | nil => intro i v e; simp at e
    | cons h1 _ ih =>
      intro i v e
      cases i with
      | zero =>
        have e' := Option.some.inj e
        subst e'
        exact ⟨_, rfl, h1⟩
      | succ i => exact ih i v e
  refine wpAny_formatField_slot (fun _ _ => nofun) (by omega) ⟨o, ho, hcl⟩ F.slot_list_format F.slot_list_str F.slot_list_repr.toG
    (lst_shown (s := { s1 with toks := s1.toks + 1 }) ho hcl hd (by rw [hlen]; simp) (fun i v e => hat hall i v (by simpa using e)) (by omega) fun m h' u tk hk hm => ⟨m, u, rfl, .str m, H1, I1.kept hk, ⟨u, rfl⟩, q m (by omega)⟩)
end
end Rl
end
section
set_option maxHeartbeats 4000000
namespace Rl
open PySem PySem.Spec PyProof.Rows L2
/-! ### isinstance of the exception that an except suite holds -/
/-- the exception's dict, if it has one, is known -/
def XdAt (d : Option Addr) (H : Hp) : Prop := d = none ∨ ∃ (dd : Addr) (fs : List (Str × V)), d = some dd ∧ H dd = some (.xd fs)
def rIsX (K : PySem.W.Frag) (a : Addr) (cls : Value) (d : Option Addr) : List V → Hp → VK → Prop := fun xs H Q => ∃ (D : Addr) (c : V) (cv : Value) (b : Bool), cls = .ref D ∧ XdAt d H ∧ xs = [.ref a, c] ∧ ClsV c cv ∧ ExcC K D ∧ PySem.W.kitOne K (.ref D) cv = some b ∧ Q (.bl b) H
def rIsXT (K : PySem.W.Frag) (a : Addr) (cls : Value) (d : Option Addr) : List V → Hp → VK → Prop := fun xs H Q => ∃ (D tp : Addr) (cs : List V) (ws : List Value) (b : Bool), cls = .ref D ∧ XdAt d H ∧ xs = [.ref a, .ref tp] ∧ H tp = some (.tup cs) ∧ Paired ClsV cs ws ∧ ExcC K D ∧ PySem.W.kitAny K (.ref D) ws = some b ∧ Q (.bl b) H
section
variable {X : Cx} {a D : Addr} {oe : Obj} {cls : Value} {d : Option Addr} {pn pins : List (Addr × Obj)} {σ : L2.St} {H : Hp} {s : Shared}
theorem inst_x (I : Inv (X.suite a ((a, oe) :: pn)) pins σ H s) (hz : Zc (.ref D) d oe) (hf : ∃ vs, oe.data = .fields vs) (hd : XdAt d H) : ∃ od, PySem.W.InstAt s.heap a oe D od := by
  obtain ⟨hg, _⟩ := I.pin (a, oe) (List.mem_append_left _ List.mem_cons_self)
  obtain ⟨vs, hv⟩ := hf
  rcases hd with rfl | ⟨dd, fs, rfl, hx⟩
  · exact ⟨none, hg, hz.1, by unfold PySem.W.notCls; rw [hv] <;> rfl, by rw [hz.2]; trivial⟩
  · obtain ⟨mA, hns, _⟩ := (show ObjOk X.prog X.w H s.heap dd (.xd fs) from I.hok dd _ hx)
    obtain ⟨od, ho, _⟩ := lookIn_ns hns
    exact ⟨some od, hg, hz.1, by unfold PySem.W.notCls; rw [hv] <;> rfl, by rw [hz.2]; exact ho⟩
theorem kit_x {od : Option Obj} (C : ExcC X.K D) : PySem.W.KitX X.K (.ref a) (.ref D) (fun h => PySem.W.InstAt h a oe D od) := by
  refine PySem.W.kitx_exc (gt := none) ?_ C.hg C.hk C.hs C.ha C.hn C.ht C.hm
  obtain ⟨cd, hc, _⟩ := PySem.W.any_some C.hd
  rw [hc]
  rfl
theorem call_isX (hz : Zc cls d oe) (hf : ∃ vs, oe.data = .fields vs) : CallR (X.suite a ((a, oe) :: pn)) (.builtin "isinstance") (rIsX X.K a cls d) := by
  intro pins s σ H xs us Q I r h
  obtain ⟨D, c, cv, b, rfl, hd, rfl, k, C, e, q⟩ := h
  obtain ⟨u1, u2, rfl, r1, r2⟩ := vals2 r
  have e2 := k.eq r2
  subst e2
  cases (show u1 = Value.ref a from r1)
  obtain ⟨od, J⟩ := inst_x I hz hf hd
  exact PySem.W.kia_one (kit_x C) I.kIn J e (fun z => nomatch z) fun tk => ⟨.bl b, H, I.tok tk, rfl, q⟩
theorem call_isXT (hz : Zc cls d oe) (hf : ∃ vs, oe.data = .fields vs) : CallR (X.suite a ((a, oe) :: pn)) (.builtin "isinstance") (rIsXT X.K a cls d) := by
  intro pins s σ H xs us Q I r h
  obtain ⟨D, tp, cs, ws, b, rfl, hd, rfl, hT, k, C, e, q⟩ := h
  obtain ⟨u1, u2, rfl, r1, r2⟩ := vals2 r
  cases (show u2 = Value.ref tp from r2)
  cases (show u1 = Value.ref a from r1)
  obtain ⟨od, J⟩ := inst_x I hz hf hd
  obtain ⟨_, its, rv, o, h1, h2, n, h3⟩ := (show ObjOk X.prog X.w H s.heap tp (.tup cs) from I.hok tp _ hT)
  have e3 := ClsV.all k rv
  subst e3
  obtain ⟨oc, odd, dt, sl⟩ := o
  simp only at h2 h3
  subst h2 h3
  exact PySem.W.kia_tup (kit_x C) I.kIn J h1 e (fun z => nomatch z) fun tk => ⟨.bl b, H, I.tok tk, rfl, q⟩
end
/-! ### calls by keywords, what is raised wished for at the caller's slots -/
def tCallNS (n m : Nat) (sp : Sp) (gV : List V → List V → List V) (E : L2.St → XK) (t tk : TA) : TE := fun σ H Q => t σ H fun vs H1 => tk σ H1 fun zs H2 => vs.length = n ∧ zs.length = m ∧ sp (gV vs zs) H2 Q (E σ)
section
variable {X : Cx} {CX : CXT} {k n : Nat} {f : Addr} {fd : FuncData} {ps ks : List Str} {sp : Sp} {E : L2.St → XK} {x : Str} {p pos : Pos} {kws : List Keyword} {t tk : TA} {g : List Value → List Value → List Value} {gV : List V → List V → List V}
theorem run_fnNS {pins : List (Addr × Obj)} {σ : L2.St} {H : Hp} {s : Shared} {Q : VK} {us ws : List Value} {vs zs : List V} (F : FnOk X.prog X.w X.K X.mg X.base CX k f fd ps sp) (hr : Room k X.A) (hb : KBn X.K fd ps n ks g gV) (hx : PassesAt CX X σ (E σ))
    (I : Inv X pins σ H s) (r : Vals vs us) (rz : Vals zs ws) (l1 : vs.length = n) (l2 : zs.length = ks.length) (h : sp (gV vs zs) H Q (E σ)) : wpAny (model X.prog X.w) X.A (call (.ref f) us (ks.zip ws)) (EP X pins σ Q) X.xe s := by
  refine wpAny_call (codeAny_mono (F.run X.A X.stack s H ⟨us, ks.zip ws⟩ (g us ws) (gV vs zs) Q (E σ) hr I.env0 (hb.to s us ws I.kIn (r.length.symm.trans l1) (rz.length.symm.trans l2)) (hb.rel r rz) h) fun o s' hq => ?_)
  cases o with
  | error e => exact hx pins H s e s' I hq
  | ok fl =>
    cases fl with
    | ret u => exact I.after hq
    | _ => exact False.elim hq
/-- f(k = v, ..), nothing by place -/
theorem pe_callNS0 (F : FnOk X.prog X.w X.K X.mg X.base CX k f fd ps sp) (hr : Room k X.A) (hg : Gl X x) (hm : X.mg x = some (.ref f)) (hk : PySem.W.keepIn X.K (.ref f) = true) (hb : KBn X.K fd ps 0 ks g gV) (hx : ∀ σ, PassesAt CX X σ (E σ))
    (hkw : PK X kws tk) (hall : (backToKw pos (keywordEach kws X.env)).all (·.1.isSome) = true := by rfl) (hks : (backToKw pos (keywordEach kws X.env)).filterMap (·.1) = ks := by rfl) (hdb : (x == ("__debug__" : Str)) = false := by decide)
    (hpl : ((backTo pos (starEach [] X.env)).any (·.1) || (backToKw pos (keywordEach kws X.env)).any (·.1.isNone)) = false := by rfl) : PE X (.Call (.Name x p) [] kws pos) (tCallNS 0 ks.length sp gV E tNil tk) := by
  refine ⟨fun pins s σ H Q I h => wpAny_Call_Name_kw (ld_glob I hg hm (PySem.W.callWith_KW0 (h₀ := X.base) I.ok.mod.kin hk hall ?_ hpl) hdb)⟩
  refine thn (hkw.run pos pins s σ H _ I h) fun ws s2 ⟨zs, H2, I2, rz, l1, l2, q2⟩ => ⟨I2.kIn, ?_⟩
  rw [hks]
  exact run_fnNS (us := []) (vs := []) F hr hb (hx σ) I2 .nil rz rfl l2 q2
end
/-- every parameter is written, some by name -/
theorem kbF {K : PySem.W.Frag} {x qual : Str} {st : Stmt} {f : Addr} {fd : FuncData} {ps : List Str} (F : Fun K x qual st f fd) (n : Nat) (ks : List Str)
    (h : ∀ (kV doc pm : Value) (an : Option Addr) (cdv ct : Value) (us ws : List Value), us.length = n → ws.length = ks.length → bindArgs (PySem.W.fnOf x qual (defArgs st) (defBody st) (defScope st) .none kV doc pm an cdv ct) ⟨us, ks.zip ws⟩ = pure (ps.zip (us ++ ws))) : KBn K fd ps n ks (fun us ws => us ++ ws) (fun vs zs => vs ++ zs) := by
  obtain ⟨oc, od, kV, doc, pm, an, cdv, ct, osl, rfl, lk, hcd⟩ := F.ex
  exact ⟨fun s us ws X l1 l2 => .of_eq (h kV doc pm an cdv ct us ws l1 l2), fun r1 r2 => r1.append r2⟩
/-- rows that are never come to -/
theorem pss_no {X : Cx} {ss : List Stmt} : PSs X ss (fun _ _ _ => False) := ⟨fun _ _ _ _ _ _ h => h.elim⟩
end Rl
end
section
set_option maxHeartbeats 4000000
namespace Nl
open PySem PySem.Spec PyProof.Rows L2 Nt
/-! ### a net whose ponds and pipes are well, but its sides or its ways aren't: refused -/
theorem xd_sameN {H : Hp} {a dx C : Addr} {fs gs : List (Str × V)} (na : H a = none) (nd : H dx = none) : Same H (upd (del (upd (upd (upd H dx (exd dx gs)) a (exo a C (some dx))) dx (exd dx fs)) a) dx (.xd fs)) := fun b o e => by
  have h1 : b ≠ a := ne_of_none e na
  have h2 : b ≠ dx := ne_of_none e nd
  rw [upd_ne h2, del_ne h1, upd_ne h2, upd_ne h1, upd_ne h2]
  exact e
section
variable {P : Program} {w : World} {K : PySem.W.Frag} {mg : Str → Option Value} {base : Heap}
def wideF (z s : Str) : List (Str × V) := [("side", .str s), ("name", .str z)]
/-- TooWide.__init__ -/
def spXWide (C : Addr) : Sp := fun vs H Q _ => ∃ (a : Addr) (y z : Str), vs = [.ref a, .str y, .str z] ∧ y.length ≤ 1000 ∧ z.length ≤ 1000 ∧ H a = some (exo a C none) ∧
  ∀ dx, H dx = none → dx ≠ a → Q .non (upd (upd (upd H dx (exd dx [("name", .str y)])) a (exo a C (some dx))) dx (exd dx (wideF y z)))
theorem ok_xWide {f C cda cc : Addr} {fd : FuncData} (T : Rl.SuX P K mg C f xTooWide "TooWide.__init__" fd cda cc) (nn : PySem.W.findIn K (.ref C) "name" = some none) (ns : PySem.W.findIn K (.ref C) "side" = some none) : FnOk P w K mg base CX0 1 f fd ["self", "name", "side"] (spXWide C) := by
  refine Rl.exi_of (N := ["self", "name", "side", "__class__"]) T rfl rfl (NdefX.nscope_by (by decide +kernel)) rfl (by decide +kernel) (fun vs H Q E h => ?_) (fun A outer s H vs Q E hr h => ?_)
  · obtain ⟨a, y, z, rfl, _⟩ := h
    rfl
  · obtain ⟨a, y, z, rfl, ly, lz, ea, q⟩ := h
    refine ⟨a, [.str y, .str z], _, _, rfl, ea, pa_cons (pe_joined (.cons pe_str (.cons (pe_fmt (pv 1)) (.cons pe_str (.cons (pe_fmt (pv 2)) .nil))))) pa_nil, pss_cons (ps_ost (pv 0) (pv 1)) (pss_one (ps_ost (pv 0) (pv 2))), ?_⟩
    have l1 : (Str.empty ++ ("pipes of pond " : Str)).length ≤ 100 := by decide +kernel
    have l2 : (" are too wide: " : Str).length ≤ 100 := by decide +kernel
    refine ⟨"pipes of pond ", rfl, by decide +kernel, .str y, rfl, .inl ⟨y, rfl, by rw [sizeLine_eq]; omega, y, rfl, ?_, " are too wide: ", rfl, ?_, .str z, rfl, .inl ⟨z, rfl, by rw [sizeLine_eq]; omega, z, rfl, ?_, (by show 1 ≤ 1000; decide), ea, ?_⟩⟩⟩
    · rw [Str.length_append, sizeLine_eq]; omega
    · rw [Str.length_append, Str.length_append, sizeLine_eq]; omega
    · rw [Str.length_append, Str.length_append, Str.length_append, sizeLine_eq]; omega
    refine ⟨.str y, rfl, .ref a, rfl, a, C, rfl, T.o, nn, .inl ⟨ea, fun dx nd ne => ?_⟩⟩
    exact ⟨.str z, rfl, .ref a, rfl, a, C, rfl, T.o, ns, .inr ⟨dx, _, upd_same, by rw [upd_ne ne, upd_same], by show 1 ≤ 900; decide, q dx nd ne⟩⟩
/-- Closed.__init__ -/
def spXClosed (K : PySem.W.Frag) (C : Addr) : Sp := fun vs H Q _ => ∃ (a l : Addr) (y : Str) (L : List Str), vs = [.ref a, .ref l] ∧ H l = some (.lst ((y :: L).map V.str)) ∧ (∀ z ∈ y :: L, Nm z) ∧ L.length ≤ 11 ∧ H a = some (exo a C none) ∧
  ∀ dx, H dx = none → dx ≠ a → Q .non (upd (upd H dx (exd dx [("names", .ref l)])) a (exo a C (some dx)))
theorem nm_small {z : Str} (h : Nm z) : ∀ c ∈ z.cps.toList, c < 16 ^ 8 := fun c hc => by
  have h1 := (Nm.iff.mp h).2 c hc
  have h2 : ∀ c ∈ abc.cps.toList, c < 16 ^ 8 := by decide +kernel
  exact h2 c h1
theorem fmt_nm : ∀ (L : List Str), (∀ z ∈ L, Nm z) → fmtCost L ≤ 84 * L.length
  | [], _ => Nat.zero_le _
  | z :: L, h => by
    have h1 := fmt_nm L fun x hx => h x (List.mem_cons_of_mem _ hx)
    have h2 := (h z List.mem_cons_self).sm.1
    rw [fmtCost_cons, List.length_cons]
    omega
theorem ok_xClosed {f C cda cc : Addr} {fd : FuncData} (T : Rl.SuX P K mg C f xClosed "Closed.__init__" fd cda cc) (nn : PySem.W.findIn K (.ref C) "names" = some none) : FnOk P w K mg base CX0 1 f fd ["self", "names"] (spXClosed K C) := by
  refine Rl.exi_of (N := ["self", "names", "__class__"]) T rfl rfl (NdefX.nscope_by (by decide +kernel)) rfl (by decide +kernel) (fun vs H Q E h => ?_) (fun A outer s H vs Q E hr h => ?_)
  · obtain ⟨a, l, y, L, rfl, _⟩ := h
    rfl
  · obtain ⟨a, l, y, L, rfl, hl, nm, ln, ea, q⟩ := h
    refine ⟨a, [.ref l], _, _, rfl, ea, pa_cons (pe_joined (.cons pe_str (.cons (Rl.pe_fmtL hr (pv 1)) .nil))) pa_nil, pss_one (ps_ost (pv 0) (pv 1)), ?_⟩
    have l1 : (Str.empty ++ ("no way out leads from " : Str)).length ≤ 100 := by decide +kernel
    have fc := fmt_nm (y :: L) nm
    rw [List.length_cons] at fc
    refine ⟨"no way out leads from ", rfl, by decide +kernel, .ref l, rfl, l, y, L, rfl, SqL.of hl, fun z hz => nm_small (nm z hz), by rw [sizeLine_eq]; omega, fun m hm => ⟨m, rfl, ?_, (by show 1 ≤ 1000; decide), ea, ?_⟩⟩
    · rw [Str.length_append, sizeLine_eq]; omega
    exact ⟨.ref l, rfl, .ref a, rfl, a, C, rfl, T.o, nn, .inl ⟨ea, q⟩⟩
/-- check_sides where a side is too wide -/
def spSidesX (CR : Addr) : Sp := fun vs H _ E => ∃ (a b : Addr) (B : Br) (Pp : Pi), vs = [.ref a, .ref b] ∧ H a = some (.dK (bk B)) ∧ H b = some (.dT (pt Pp)) ∧ Wf Nm B Pp ∧ ¬ Fit B Pp ∧
  ∀ (H' : Hp) (d : Addr) (z s : Str), Same H H' → H d = none → z ∈ nms B → H' d = some (.xd (wideF z s)) → E (.ref CR) (some d) H'
theorem ok_ckSidesX {f fN fM CR f2 cda cc : Addr} {fd fdN fdM fd2 : FuncData} (F : Fun K "check_sides" "check_sides" sCkSides f fd) (FN : Fun K "goes_out" "goes_out" sGoes fN fdN) (GN : FnOk P w K mg base CX0 1 fN fdN ["pipes", "name"] spGoes) (bN : Binds K fdN ["pipes", "name"] []) (gN : mg "goes_out" = some (.ref fN))
    (FM : Fun K "comes_in" "comes_in" sComes fM fdM) (GM : FnOk P w K mg base CX0 1 fM fdM ["pipes", "name"] spComes) (bM : Binds K fdM ["pipes", "name"] []) (gM : mg "comes_in" = some (.ref fM)) (ms : mg "sorted" = none)
    (TX : Rl.SuX P K mg CR f2 xTooWide "TooWide.__init__" fd2 cda cc) (G2 : FnOk P w K mg base CX0 1 f2 fd2 ["self", "name", "side"] (spXWide CR)) (b2 : Binds K fd2 ["self", "name", "side"] []) (g2 : mg "TooWide" = some (.ref CR)) :
    FnOk P w K mg base (L2.CX P w) 3 f fd ["brims", "pipes"] (spSidesX CR) := by
  refine F.okX scCkSides (fun vs H Q E h => ?_) (fun cdv A outer s H vs Q E hr h => ?_)
  · obtain ⟨a, b, B, Pp, rfl, _⟩ := h
    rfl
  · obtain ⟨a, b, B, Pp, rfl, hA, hB, wf, nfit, q⟩ := h
    have hu := hu_of hr
    have hr1 := hr.mono (show 1 ≤ 2 by decide)
    refine ⟨_, pss_one (ps_for (passes_of rfl) rfl (pi_list (pe_callB (call_sortedD rfl) (by rfl) ms (by decide +kernel) (pa_cons (pv 0) pa_nil))) (pg_name (i := 2) scCkSides.nd rfl (.inl rfl))
      (pss_cons (ps_if (pt_cmpR op_gt (pe_call GN hr1 (by rfl) gN FN.kp bN .nil pass0 (pa_cons (pv 1) (pa_cons (pv 2) pa_nil))) (pe_dget hu (pv 0) (pv 2) (fun _ _ => rfl)) (nomark _)) (pss_one (ps_raise rfl (takes_of (E := E) rfl rfl rfl rfl) (pmk_oex TX.o TX.iC TX.tI G2 hr b2 .nil pass0 (by rfl) g2 (pa_cons (pv 2) (pa_cons pe_str pa_nil))))) pss_nil)
      (pss_one (ps_if (pt_cmpR op_gt (pe_call GM hr1 (by rfl) gM FM.kp bM .nil pass0 (pa_cons (pv 1) (pa_cons (pv 2) pa_nil))) (pe_dget hu (pv 0) (pv 2) (fun _ _ => rfl)) (nomark _)) (pss_one (ps_raise rfl (takes_of (E := E) rfl rfl rfl rfl) (pmk_oex TX.o TX.iC TX.tI G2 hr b2 .nil pass0 (by rfl) g2 (pa_cons (pv 2) (pa_cons pe_str pa_nil))))) pss_nil)))), ?_⟩
    refine ⟨.ref a, rfl, a, _, nms B, rfl, .inl hA, ?_, ?_, fun ys e pm _ ne => ?_⟩
    · unfold bk nms
      rw [List.map_map, List.map_map]; rfl
    · show (B.map _).length < 64
      rw [List.length_map]; have := wf.lb; omega
    refine ⟨e, rfl, ⟨_, SqL.of upd_same⟩, ?_⟩
    have out : ∀ (H1 : Hp) (z s : Str), Same H H1 → z ∈ nms B → s.length ≤ 1000 → z.length ≤ 1000 → ∀ (ya : V), ya = .str z → tMkO CR (spXWide CR) [] (fun σ H Q => Q [.str z, .str s] H) [] H1 E := fun H1 z s s1 mz ls lz ya _ =>
      ⟨(by show 2 ≤ 1000; decide), fun x nx => ⟨x, z, s, rfl, lz, ls, upd_same, fun dx nd ne => by
        rw [upd_ne ne] at nd
        refine ⟨rfl, dx, wideF z s, ?_, upd_same, nd, ?_⟩
        · rw [upd_ne (Ne.symm ne), upd_same]
        · refine q _ dx z s (s1.trans fun y o ey => ?_) (s1.free nd) mz upd_same
          have h1 : y ≠ x := ne_of_none ey nx
          have h2 : y ≠ dx := ne_of_none ey nd
          rw [upd_ne h2, del_ne h1, upd_ne h2, upd_ne h1, upd_ne h2, upd_ne h1]; exact ey⟩⟩
    refine for_it (walk_list (K := K) (a := e) (xs := ys.map V.str)) (fun i σ H1 => ∃ y : Option V, σ = [some (.ref a), some (.ref b), y] ∧ Same (upd H e (.lst (ys.map V.str))) H1 ∧ ∀ z ∈ ys.take i, outW Pp z ≤ val0 B z ∧ inW Pp z ≤ val0 B z) ⟨none, rfl, Same.refl _, fun z hz => absurd hz List.not_mem_nil⟩ (fun i σ H1 _ ⟨_, _, h, _⟩ => SqL.of (h e _ upd_same)) ?_ ?_
    · rintro i x σ H1 H1' hi ⟨y, rfl, sm, fine⟩ ⟨rfl, hx⟩
      rw [List.getElem?_map] at hx
      cases hy : ys[i]? with
      | none => rw [hy] at hx; cases hx
      | some z =>
        rw [hy] at hx
        have hx' : V.str z = x := Option.some.inj hx
        subst hx'
        have mz := pm.mem_iff.mp (List.mem_of_getElem? hy)
        obtain ⟨p, hp, ez⟩ := List.mem_map.mp mz
        have ez' : p.1 = z := ez
        have gz : getB B z = some p.2 := getB_of_mem wf.nb (by rw [← ez']; exact hp)
        have vz : val0 B z = p.2 := by unfold val0; rw [gz]; rfl
        have lz : z.length ≤ 1000 := by have := (wf.rb p hp).1.sm.1; rw [ez'] at this; omega
        have sA := (same_new (o := .lst (ys.map V.str)) ne).trans sm
        refine ⟨.ref b, rfl, .str z, rfl, b, Pp, z, rfl, sA b _ hB, wf.np, wf.lp, fun H2 s2 => ?_⟩
        refine ⟨.ref a, rfl, .str z, rfl, a, .int p.2, rfl, .inl ⟨_, Sum.inr z, .inl (s2 a _ (sA a _ hA)), rfl, by rw [valV_bk, gz]; rfl⟩, _, _, rfl, rfl, _, rfl, ?_⟩
        refine ite2 (fun c => ?_) (fun c => ?_)
        · obtain ⟨u1, u2⟩ := out H2 z "out" (sA.trans s2) mz (by decide +kernel) lz _ rfl
          exact ⟨.str z, rfl, u1, u2⟩
        refine ⟨.ref b, rfl, .str z, rfl, b, Pp, z, rfl, s2 b _ (sA b _ hB), wf.np, wf.lp, fun H3 s3 => ?_⟩
        refine ⟨.ref a, rfl, .str z, rfl, a, .int p.2, rfl, .inl ⟨_, Sum.inr z, .inl (s3 a _ (s2 a _ (sA a _ hA))), rfl, by rw [valV_bk, gz]; rfl⟩, _, _, rfl, rfl, _, rfl, ?_⟩
        refine ite2 (fun c2 => ?_) (fun c2 => ?_)
        · obtain ⟨u1, u2⟩ := out H3 z "in" (sA.trans (s2.trans s3)) mz (by decide +kernel) lz _ rfl
          exact ⟨.str z, rfl, u1, u2⟩
        refine ⟨_, rfl, sm.trans (s2.trans s3), fun u hu' => ?_⟩
        rw [List.take_add_one, hy] at hu'
        rcases List.mem_append.mp hu' with h | h
        · exact fine u h
        · rw [show u = z by simpa using h, vz]
          have c' : ¬ (outW Pp z > p.2) := fun h => c (decide_eq_true h)
          have c2' : ¬ (inW Pp z > p.2) := fun h => c2 (decide_eq_true h)
          omega
    · rintro σ H1 ⟨y, rfl, sm, fine⟩
      exfalso
      refine nfit fun p hp => ?_
      have my : p.1 ∈ ys := pm.mem_iff.mpr (List.mem_map.mpr ⟨p, hp, rfl⟩)
      have := fine p.1 (by rw [List.length_map, List.take_length]; exact my)
      rw [show val0 B p.1 = p.2 by unfold val0; rw [getB_of_mem wf.nb (show (p.1, p.2) ∈ B from hp)]; rfl] at this
      exact this
/-- check_ways where a pond has no way out -/
def spWaysX (CR : Addr) : Sp := fun vs H _ E => ∃ (a b : Addr) (B : Br) (Pp : Pi), vs = [.ref a, .ref b] ∧ H a = some (.dK (bk B)) ∧ H b = some (.dT (pt Pp)) ∧ Wf Nm B Pp ∧ (∃ x ∈ nms B, ¬ Opn B Pp x) ∧
  ∀ (H' : Hp) (d l : Addr), Same H H' → H d = none → H' d = some (.xd [("names", .ref l)]) → E (.ref CR) (some d) H'
theorem ok_ckWaysX {f fN CR f2 cda cc : Addr} {fd fdN fd2 : FuncData} (F : Fun K "check_ways" "check_ways" sCkWays f fd) (FN : Fun K "steps_out" "steps_out" sSteps fN fdN) (GN : FnOk P w K mg base CX0 2 fN fdN ["brims", "pipes"] spSteps) (bN : Binds K fdN ["brims", "pipes"] []) (gN : mg "steps_out" = some (.ref fN)) (ms : mg "sorted" = none)
    (TX : Rl.SuX P K mg CR f2 xClosed "Closed.__init__" fd2 cda cc) (G2 : FnOk P w K mg base CX0 1 f2 fd2 ["self", "names"] (spXClosed K CR)) (b2 : Binds K fd2 ["self", "names"] []) (g2 : mg "Closed" = some (.ref CR)) :
    FnOk P w K mg base (L2.CX P w) 3 f fd ["brims", "pipes"] (spWaysX CR) := by
  refine F.okX scCkWays (fun vs H Q E h => ?_) (fun cdv A outer s H vs Q E hr h => ?_)
  · obtain ⟨a, b, B, Pp, rfl, _⟩ := h
    rfl
  · obtain ⟨a, b, B, Pp, rfl, hA, hB, wf, nop, q⟩ := h
    refine ⟨_, pss_cons (ps_set (i := 2) scCkWays.nd rfl (.inr rfl) (pe_call GN hr (by rfl) gN FN.kp bN .nil pass0 (pa_cons (pv 0) (pa_cons (pv 1) pa_nil))))
      (pss_cons (ps_setLc (i := 3) (own := [("name", 4)]) (g := gName 4) rfl scCkWays.nd rfl rfl (sw_true rfl rfl rfl (by decide +kernel)) (pi_list (pe_callB (call_sortedD rfl) (by rfl) ms (by decide +kernel) (pa_cons (pv 0) pa_nil)))
        (blkOk_by (N := ["brims", "pipes", "steps", "closed", "name"]) (sc := defScope sCkWays) (by decide +kernel)) (fun _ _ _ _ _ => pg_name (i := 4) scCkWays.nd rfl (Or.inl rfl))
        (fun _ _ _ _ _ => pts_one (pt_cmp (pc_dnotin (hu_of hr) (pv 4) (pv 2)))) (fun _ _ _ _ _ => pv 4))
      (pss_one (ps_if (pt_truth (pv 3) (by intro _; rfl)) (pss_one (ps_raise rfl (takes_of (E := E) rfl rfl rfl rfl) (pmk_oex TX.o TX.iC TX.tI G2 hr b2 .nil pass0 (by rfl) g2 (pa_cons (pv 3) pa_nil)))) pss_nil))), ?_⟩
    refine ⟨.ref a, rfl, .ref b, rfl, a, b, B, Pp, rfl, hA, hB, wf, fun H1 p S s1 np hp ndS mS => ?_⟩
    refine ⟨.ref a, rfl, a, _, nms B, rfl, .inl (s1 a _ hA), ?_, ?_, fun ys e pm _ ne => ?_⟩
    · unfold bk nms
      rw [List.map_map, List.map_map]; rfl
    · show (B.map _).length < 64
      rw [List.length_map]; have := wf.lb; omega
    have sE := same_new (o := .lst (ys.map V.str)) ne
    have lY : ys.length ≤ 12 := by rw [pm.length_eq, nms_len']; exact wf.lb
    refine ⟨e, rfl, ⟨_, SqL.of upd_same⟩, fun D nD => ?_⟩
    refine lc_it (walk_list (K := K) (a := e) (xs := ys.map V.str)) (fun i H2 => H2 D = some (.lst (((ys.take i).filter fun z => decide (z ∉ nms S)).map V.str)) ∧ Same (upd H1 e (.lst (ys.map V.str))) H2) ⟨upd_same, same_new nD⟩ (fun i H2 _ h => SqL.of (h.2 e _ upd_same)) ?_ ?_
    · rintro i x H2 H2' hi ⟨hD, sm⟩ ⟨rfl, hx⟩
      rw [List.getElem?_map] at hx
      cases hy : ys[i]? with
      | none => rw [hy] at hx; cases hx
      | some z =>
        rw [hy] at hx
        have hx' : V.str z = x := Option.some.inj hx
        subst hx'
        refine ⟨rfl, .str z, rfl, .ref p, rfl, p, _, rfl, .inl ⟨_, Sum.inr z, .inl (sm p _ (sE p _ hp)), rfl, rfl⟩, _, rfl, ?_⟩
        rw [valV_bk, getB_isSome]
        have tk : (ys.take (i + 1)).filter (fun z => decide (z ∉ nms S)) = (ys.take i).filter (fun z => decide (z ∉ nms S)) ++ (if z ∉ nms S then [z] else []) := by
          rw [List.take_add_one, hy, List.filter_append]
          congr 1
          show List.filter _ [z] = _
          rw [List.filter_cons]
          by_cases c : z ∉ nms S
          · rw [if_pos (decide_eq_true c), if_pos c]; rfl
          · rw [if_neg (by simpa using c), if_neg c]; rfl
        by_cases c : z ∈ nms S
        · rw [decide_eq_true c]
          refine iteF ⟨?_, sm⟩
          rw [tk, if_neg (fun h => h c), List.append_nil]; exact hD
        · rw [decide_eq_false c]
          refine iteT ⟨.str z, rfl, _, hD, ?_, ?_, fun x o ex => by rw [upd_ne (ne_of_none ex nD)]; exact sm x o ex⟩
          · rw [List.length_map]
            have := List.length_filter_le (fun z => decide (z ∉ nms S)) (ys.take i)
            rw [List.length_take] at this
            exact small1000 (by omega)
          · rw [upd_same, tk, if_pos c, List.map_append]; rfl
    · rintro H2 ⟨hD, sm⟩
      rw [List.length_map, List.take_length] at hD
      obtain ⟨L, hL⟩ : ∃ L, L = ys.filter fun z => decide (z ∉ nms S) := ⟨_, rfl⟩
      rw [← hL] at hD
      have nmL : ∀ z ∈ L, Nm z := fun z hz => by
        rw [hL] at hz
        obtain ⟨pz, hpz, ez⟩ := List.mem_map.mp (pm.mem_iff.mp (List.mem_filter.mp hz).1)
        rw [← (show pz.1 = z from ez)]
        exact (wf.rb pz hpz).1
      have lL : L.length ≤ 12 := by
        rw [hL]
        exact Nat.le_trans (List.length_filter_le _ _) lY
      cases L with
      | nil =>
        exfalso
        obtain ⟨x, mx, nx⟩ := nop
        have hx : x ∈ ys.filter fun z => decide (z ∉ nms S) := List.mem_filter.mpr ⟨pm.mem_iff.mpr mx, decide_eq_true fun h => nx ((mS x).mp h).2⟩
        rw [← hL] at hx
        cases hx
      | cons y L =>
        refine ⟨.ref D, rfl, true, .inl ⟨_, SqL.of hD, rfl⟩, iteT ?_⟩
        refine ⟨.ref D, rfl, (by show 1 ≤ 1000; decide), fun x nx => ⟨x, D, y, L, rfl, by rw [upd_ne (ne_of_none hD nx)]; exact hD, nmL, by rw [List.length_cons] at lL; omega, upd_same, fun dx nd ne => ?_⟩⟩
        rw [upd_ne ne] at nd
        have s12 := s1.trans (sE.trans sm)
        refine ⟨rfl, dx, [("names", .ref D)], upd_same, ?_, nd, ?_⟩
        · rw [upd_ne ne, upd_same]
        · refine q _ dx D (s12.trans fun u o eu => ?_) (s12.free nd) upd_same
          have h1 : u ≠ x := ne_of_none eu nx
          have h2 : u ≠ dx := ne_of_none eu nd
          rw [upd_ne h2, del_ne h1, upd_ne h1, upd_ne h2, upd_ne h1]; exact eu
/-- Net.__init__ where a side is too wide or a pond has no way out -/
def spNInitX (C CW CC : Addr) : Sp := fun vs H _ E => ∃ (n dx a b : Addr) (B : Br) (Pp : Pi), vs = [.ref n, .ref a, .ref b] ∧ H n = some (.ins C dx []) ∧ H a = some (.dK (bk B)) ∧ H b = some (.dT (pt Pp)) ∧ Wf Nm B Pp ∧ ¬ Good B Pp ∧
  ∀ (H' : Hp) (X d : Addr), X = CW ∨ X = CC → Same H H' → H d = none → (∃ fs, H' d = some (.xd fs)) → E (.ref X) (some d) H'
theorem ok_nInitX {f C CW CC f1 f2 f3 f4 : Addr} {fd fd1 fd2 fd3 fd4 : FuncData} (F : FunD K "__init__" "Net.__init__" (defArgs mNet_init) (defBody mNet_init) (defScope mNet_init) [.non] [] f fd) (T : TxN K mg C)
    (F1 : Fun K "check_ponds" "check_ponds" sCkPonds f1 fd1) (G1 : FnOk P w K mg base CX0 3 f1 fd1 ["brims"] spCkPonds) (b1 : Binds K fd1 ["brims"] []) (g1 : mg "check_ponds" = some (.ref f1))
    (F2 : Fun K "check_pipes" "check_pipes" sCkPipes f2 fd2) (G2 : FnOk P w K mg base CX0 4 f2 fd2 ["brims", "pipes"] (spCk2 fun _ _ => True)) (b2 : Binds K fd2 ["brims", "pipes"] []) (g2 : mg "check_pipes" = some (.ref f2))
    (F3 : Fun K "check_sides" "check_sides" sCkSides f3 fd3) (G3 : FnOk P w K mg base CX0 2 f3 fd3 ["brims", "pipes"] (spCk2 Fit)) (G3X : FnOk P w K mg base (L2.CX P w) 3 f3 fd3 ["brims", "pipes"] (spSidesX CW)) (b3 : Binds K fd3 ["brims", "pipes"] []) (g3 : mg "check_sides" = some (.ref f3))
    (F4 : Fun K "check_ways" "check_ways" sCkWays f4 fd4) (G4X : FnOk P w K mg base (L2.CX P w) 3 f4 fd4 ["brims", "pipes"] (spWaysX CC)) (b4 : Binds K fd4 ["brims", "pipes"] []) (g4 : mg "check_ways" = some (.ref f4))
    (mi : mg "isinstance" = none) (md : mg "dict" = none) : FnOk P w K mg base (L2.CX P w) 5 f fd ["self", "brims", "pipes"] (spNInitX C CW CC) := by
  have G3J := fnokOr (fnokCx (CX := L2.CX P w) (G3.mono (show 2 ≤ 3 by decide))) G3X
  refine F.ok scNInit (fun vs H Q E h => ?_) (fun cdv A outer s H vs Q E hr h => ?_)
  · obtain ⟨n, dx, a, b, B, Pp, rfl, _⟩ := h
    rfl
  · obtain ⟨n, dx, a, b, B, Pp, rfl, hn, hA, hB, wf, ng, q⟩ := h
    have hu := hu_of hr
    have hr3 := hr.mono (show 3 ≤ 4 by decide)
    refine ⟨_, pss_cons (ps_set (i := 3) scNInit.nd rfl (.inr rfl) (pe_ifExp (pt_cmp (pc_isN (pv 2))) pe_dnewT (pv 2)))
      (pss_cons (ps_if (PW.pt (pw_or (pt_not (pt_val (pe_callB call_isi (by rfl) mi (by decide +kernel) (pa_cons (pv 1) (pa_cons (pe_bltn (v := .ty "dict") (by rfl) md (by decide +kernel) rfl) pa_nil)))))
        (pw_or1 (pt_not (pt_val (pe_callB call_isi (by rfl) mi (by decide +kernel) (pa_cons (pv 3) (pa_cons (pe_bltn (v := .ty "dict") (by rfl) md (by decide +kernel) rfl) pa_nil)))))))) (pss_one ps_never) pss_nil)
      (pss_cons (ps_expr (pe_call G1 hr3 (by rfl) g1 F1.kp b1 .nil pass0 (pa_cons (pv 1) pa_nil)))
      (pss_cons (ps_expr (pe_call G2 hr (by rfl) g2 F2.kp b2 .nil pass0 (pa_cons (pv 1) (pa_cons (pv 3) pa_nil))))
      (pss_cons (ps_expr (pe_call G3J hr3 (by rfl) g3 F3.kp b3 .nil (passes_call (takes_of (E := E) rfl rfl rfl rfl) fun _ _ _ _ h => h) (pa_cons (pv 1) (pa_cons (pv 3) pa_nil))))
      (pss_cons (ps_expr (pe_call G4X hr3 (by rfl) g4 F4.kp b4 .nil (passes_call (takes_of (E := E) rfl rfl rfl rfl) fun _ _ _ _ h => h) (pa_cons (pv 1) (pa_cons (pv 3) pa_nil))))
      Rl.pss_no))))), ?_⟩
    refine ⟨.ref b, rfl, false, rfl, iteF ⟨.ref b, rfl, ?_⟩⟩
    refine ⟨.ref a, rfl, .ref a, .ty "dict", .type "dict", .type "dict", true, rfl, .ty _, .base (.dK hA), kit_ty (by decide +kernel), true, rfl, iteF ?_⟩
    refine ⟨.ref b, rfl, .ref b, .ty "dict", .type "dict", .type "dict", true, rfl, .ty _, .base (.dT hB), kit_ty (by decide +kernel), true, rfl, iteF ?_⟩
    refine ⟨.ref a, rfl, a, B, Pp, rfl, hA, wf, fun H1 s1 => ?_⟩
    refine ⟨.ref a, rfl, .ref b, rfl, a, b, B, Pp, rfl, s1 a _ hA, s1 b _ hB, wf, trivial, fun H2 s2 => ?_⟩
    have s12 := s1.trans s2
    refine ⟨.ref a, rfl, .ref b, rfl, ?_⟩
    by_cases fit : Fit B Pp
    · refine .inl ⟨a, b, B, Pp, rfl, s12 a _ hA, s12 b _ hB, wf, fit, fun H3 s3 => ?_⟩
      have s13 := s12.trans s3
      have nop : ∃ x ∈ nms B, ¬ Opn B Pp x := by
        refine Classical.byContradiction fun c => ng ⟨wf, fit, fun x hx => Classical.byContradiction fun o => c ⟨x, hx, o⟩⟩
      exact ⟨.ref a, rfl, .ref b, rfl, a, b, B, Pp, rfl, s13 a _ hA, s13 b _ hB, wf, nop, fun H4 d l s4 nd hd => q H4 CC d (.inr rfl) (s13.trans s4) (s13.free nd) ⟨_, hd⟩⟩
    · exact .inr ⟨a, b, B, Pp, rfl, s12 a _ hA, s12 b _ hB, wf, fit, fun H3 d z s s3 nd mz hd => q H3 CW d (.inl rfl) (s12.trans s3) (s12.free nd) ⟨_, hd⟩⟩
end
end Nl
end
section
set_option maxHeartbeats 4000000
namespace Nl
open PySem PySem.Spec PyProof.Rows L2 Nt
/-! ### Stand(..) of tables that aren't let -/
theorem xd_sameI {H : Hp} {a dx C : Addr} {fs : List (Str × V)} (na : H a = none) (nd : H dx = none) : Same H (upd (del (upd (upd (upd H a (exo a C none)) dx (exd dx fs)) a (exo a C (some dx))) a) dx (.xd fs)) := fun b o e => by
  have h1 : b ≠ a := ne_of_none e na
  have h2 : b ≠ dx := ne_of_none e nd
  rw [upd_ne h2, del_ne h1, upd_ne h1, upd_ne h2, upd_ne h1]
  exact e
section
variable {P : Program} {w : World} {K : PySem.W.Frag} {mg : Str → Option Value} {base : Heap}
/-- an __init__ that keeps one thing of any kind as its name -/
def spXNm (C : Addr) : Sp := fun vs H Q _ => ∃ (a : Addr) (v : V), vs = [.ref a, v] ∧ H a = some (exo a C none) ∧
  ∀ dx, H dx = none → dx ≠ a → Q .non (upd (upd H dx (exd dx [("name", v)])) a (exo a C (some dx)))
theorem ok_xBadP {f C cda cc : Addr} {fd : FuncData} (T : Rl.SuX P K mg C f xBadPoured "BadPoured.__init__" fd cda cc) (nn : PySem.W.findIn K (.ref C) "name" = some none) : FnOk P w K mg base CX0 1 f fd ["self", "name"] (spXNm C) := by
  refine Rl.exi_of (N := ["self", "name", "__class__"]) T rfl rfl (NdefX.nscope_by (by decide +kernel)) rfl (by decide +kernel) (fun vs H Q E h => ?_) (fun A outer s H vs Q E hr h => ?_)
  · obtain ⟨a, y, rfl, _⟩ := h
    rfl
  · obtain ⟨a, v, rfl, ea, q⟩ := h
    refine ⟨a, [v], _, _, rfl, ea, pa_cons pe_str pa_nil, pss_one (ps_ost (pv 0) (pv 1)), ?_⟩
    refine ⟨(by show 1 ≤ 1000; decide), ea, ?_⟩
    exact ⟨v, rfl, .ref a, rfl, a, C, rfl, T.o, nn, .inl ⟨ea, q⟩⟩
theorem ok_xBadC {f C cda cc : Addr} {fd : FuncData} (T : Rl.SuX P K mg C f xBadCount "BadCount.__init__" fd cda cc) (nn : PySem.W.findIn K (.ref C) "name" = some none) : FnOk P w K mg base CX0 1 f fd ["self", "name"] (spXNm C) := by
  refine Rl.exi_of (N := ["self", "name", "__class__"]) T rfl rfl (NdefX.nscope_by (by decide +kernel)) rfl (by decide +kernel) (fun vs H Q E h => ?_) (fun A outer s H vs Q E hr h => ?_)
  · obtain ⟨a, y, rfl, _⟩ := h
    rfl
  · obtain ⟨a, v, rfl, ea, q⟩ := h
    refine ⟨a, [v], _, _, rfl, ea, pa_cons pe_str pa_nil, pss_one (ps_ost (pv 0) (pv 1)), ?_⟩
    refine ⟨(by show 1 ≤ 1000; decide), ea, ?_⟩
    exact ⟨v, rfl, .ref a, rfl, a, C, rfl, T.o, nn, .inl ⟨ea, q⟩⟩
/-- the poured amounts are wrong, or they are right and the counts are wrong -/
def BadTs (P : Program) (w : World) (H : Hp) (B : Br) (CP CU : Addr) (t u x : V) (X : Addr) : Prop := (BadT P w H B t x ∧ X = CP) ∨ ((∃ Qp, Tab H t B Qp) ∧ BadT P w H B u x ∧ X = CU)
theorem BadTs.same {P : Program} {w : World} {H H' : Hp} {B : Br} {CP CU : Addr} {t u x : V} {X : Addr} (h : BadTs P w H B CP CU t u x X) (s : Same H H') : BadTs P w H' B CP CU t u x X :=
  h.imp (fun ⟨a, b⟩ => ⟨a.same s, b⟩) (fun ⟨⟨Qp, a⟩, b, c⟩ => ⟨⟨Qp, a.same s⟩, b.same s, c⟩)
def spSInitX (P : Program) (w : World) (CS C CP CU : Addr) : Sp := fun vs H _ E => ∃ (st n : Addr) (t u x : V) (B : Br) (Pp : Pi) (X : Addr), vs = [.ref st, .ref n, t, u] ∧ NetAt C H n B Pp ∧ Good B Pp ∧ BadTs P w H B CP CU t u x X ∧
  ∀ (H' : Hp) (d : Addr), Same H H' → H d = none → H' d = some (.xd [("name", x)]) → E (.ref X) (some d) H'
theorem ok_sInitX {f CS C CP CU f1 fP fU cdP ccP cdU ccU : Addr} {fd fd1 fdP fdU : FuncData} (F : FunD K "__init__" "Stand.__init__" (defArgs mStand_init) (defBody mStand_init) (defScope mStand_init) [.non, .non] [] f fd)
    (F1 : Fun K "wrong_keys" "wrong_keys" sWrong f1 fd1) (G1 : FnOk P w K mg base CX0 4 f1 fd1 ["net", "table"] (spWrong C)) (GX1 : FnOk P w K mg base CX0 4 f1 fd1 ["net", "table"] (spWrongX P w C)) (b1 : Binds K fd1 ["net", "table"] []) (g1 : mg "wrong_keys" = some (.ref f1))
    (TP : Rl.SuX P K mg CP fP xBadPoured "BadPoured.__init__" fdP cdP ccP) (GP : FnOk P w K mg base CX0 1 fP fdP ["self", "name"] (spXNm CP)) (bP : Binds K fdP ["self", "name"] []) (gP : mg "BadPoured" = some (.ref CP))
    (TU : Rl.SuX P K mg CU fU xBadCount "BadCount.__init__" fdU cdU ccU) (GU : FnOk P w K mg base CX0 1 fU fdU ["self", "name"] (spXNm CU)) (bU : Binds K fdU ["self", "name"] []) (gU : mg "BadCount" = some (.ref CU)) :
    FnOk P w K mg base (L2.CX P w) 5 f fd ["self", "net", "poured", "counts"] (spSInitX P w CS C CP CU) := by
  have GJ := fnok_or G1 GX1
  refine F.ok scSInit (fun vs H Q E h => ?_) (fun cdv A outer s H vs Q E hr h => ?_)
  · obtain ⟨st, n, t, u, x, B, Pp, X, rfl, _⟩ := h
    rfl
  · obtain ⟨st, n, t, u, x, B, Pp, X, rfl, N, good, bad, q⟩ := h
    have hr2 := hr.mono (show 2 ≤ 4 by decide)
    refine ⟨_, (pss_cons (ps_set (i := 4) scSInit.nd rfl (.inl rfl) (pe_call GJ hr (by rfl) g1 F1.kp b1 .nil pass0 (pa_cons (pv 1) (pa_cons (pv 2) pa_nil))))
      (pss_cons (ps_if (pt_truth (pv 4) (by intro _; rfl)) (pss_one (ps_raise rfl (takes_of (E := E) rfl rfl rfl rfl) (pmk_oex TP.o TP.iC TP.tI GP hr2 bP .nil pass0 (by rfl) gP (pa_cons (pe_ix ix_list (pv 4) pe_int (fun _ _ => rfl)) pa_nil)))) pss_nil)
      (pss_cons (ps_set (i := 4) scSInit.nd rfl (.inl rfl) (pe_call GJ hr (by rfl) g1 F1.kp b1 .nil pass0 (pa_cons (pv 1) (pa_cons (pv 3) pa_nil))))
      (pss_cons (ps_if (pt_truth (pv 4) (by intro _; rfl)) (pss_one (ps_raise rfl (takes_of (E := E) rfl rfl rfl rfl) (pmk_oex TU.o TU.iC TU.tI GU hr2 bU .nil pass0 (by rfl) gU (pa_cons (pe_ix ix_list (pv 4) pe_int (fun _ _ => rfl)) pa_nil)))) pss_nil)
      Rl.pss_no)))), ?_⟩
    rcases bad with ⟨bt, rfl⟩ | ⟨⟨Qp, tp⟩, bu, rfl⟩
    · refine ⟨.ref n, rfl, t, rfl, .inr ⟨n, t, x, B, Pp, rfl, N, good, bt, fun H1 e s1 ne he => ?_⟩⟩
      refine ⟨.ref e, rfl, true, .inl ⟨[x], SqL.of he, rfl⟩, iteT ?_⟩
      refine ⟨.ref e, rfl, e, _, 0, x, rfl, rfl, SqL.of he, atI_nat (j := 0) rfl, ?_⟩
      refine ⟨by show 1 ≤ 1000; decide, fun a na => ⟨a, x, rfl, upd_same, fun dx nd ne2 => ⟨rfl, dx, [("name", x)], upd_same, ?_, ?_, ?_⟩⟩⟩
      · rw [upd_ne ne2, upd_same]
      · rw [upd_ne ne2] at nd
        exact nd
      · rw [upd_ne ne2] at nd
        exact q _ dx (s1.trans (xd_sameI na nd)) (s1.free nd) upd_same
    · refine ⟨.ref n, rfl, t, rfl, .inl ⟨n, t, B, Pp, Qp, rfl, N, good, tp, fun H1 e s1 ne he => ?_⟩⟩
      refine ⟨.ref e, rfl, false, .inl ⟨[], SqL.of he, rfl⟩, iteF ?_⟩
      refine ⟨.ref n, rfl, u, rfl, .inr ⟨n, u, x, B, Pp, rfl, N.same s1, good, bu.same s1, fun H2 e2 s2 ne2 he2 => ?_⟩⟩
      have s12 := s1.trans s2
      refine ⟨.ref e2, rfl, true, .inl ⟨[x], SqL.of he2, rfl⟩, iteT ?_⟩
      refine ⟨.ref e2, rfl, e2, _, 0, x, rfl, rfl, SqL.of he2, atI_nat (j := 0) rfl, ?_⟩
      refine ⟨by show 1 ≤ 1000; decide, fun a na => ⟨a, x, rfl, upd_same, fun dx nd ne2 => ⟨rfl, dx, [("name", x)], upd_same, ?_, ?_, ?_⟩⟩⟩
      · rw [upd_ne ne2, upd_same]
      · rw [upd_ne ne2] at nd
        exact nd
      · rw [upd_ne ne2] at nd
        exact q _ dx (s12.trans (xd_sameI na nd)) (s12.free nd) upd_same
end
end Nl
end
section
set_option maxHeartbeats 1000000
namespace Nl
open PySem PySem.Spec PyProof.Rows L2 Nt
/-! ### no run of spills goes on for ever -/
inductive OpnN (B : Br) (P : Pi) : Nat → Str → Prop
  | soak {x : Str} {b : Int} : (x, b) ∈ B → outW P x < b → OpnN B P 0 x
  | step {x y : Str} {w : Int} {k : Nat} : ((x, y), w) ∈ P → OpnN B P k y → OpnN B P (k + 1) x
theorem opn_num {B : Br} {P : Pi} {x : Str} (h : Opn B P x) : ∃ k, OpnN B P k x := by
  induction h with
  | soak h1 h2 => exact ⟨0, .soak h1 h2⟩
  | step h1 _ ih => obtain ⟨k, hk⟩ := ih; exact ⟨k + 1, .step h1 hk⟩
theorem least {p : Nat → Prop} (h : ∃ k, p k) : ∃ k, p k ∧ ∀ j, p j → k ≤ j := by
  obtain ⟨k, hk⟩ := h
  induction k using Nat.strongRecOn with
  | _ k ih =>
    by_cases c : ∃ j, j < k ∧ p j
    · obtain ⟨j, h1, h2⟩ := c
      exact ih j h1 h2
    · refine ⟨k, hk, fun j hj => ?_⟩
      rcases Nat.lt_or_ge j k with z | z
      · exact absurd ⟨j, z, hj⟩ c
      · exact z
theorem bound_of {α : Type} (f : α → Nat) : ∀ l : List α, ∃ N, ∀ x ∈ l, f x ≤ N
  | [] => ⟨0, fun x h => (List.not_mem_nil h).elim⟩
  | a :: r => by
    obtain ⟨N, h⟩ := bound_of f r
    refine ⟨N + f a, fun x hx => ?_⟩
    rcases List.mem_cons.mp hx with rfl | hx
    · omega
    · have := h x hx; omega
theorem sum_le {α : Type} {f g : α → Int} : ∀ {l : List α}, (∀ x ∈ l, f x ≤ g x) → (l.map f).sum ≤ (l.map g).sum
  | [], _ => Int.le_refl _
  | x :: r, h => by
    have h1 := h x List.mem_cons_self
    have h2 := sum_le fun y hy => h y (List.mem_cons_of_mem _ hy)
    simp only [List.map_cons, List.sum_cons]
    omega
theorem one_le_sum {α : Type} {f : α → Int} : ∀ {l : List α} {a : α}, a ∈ l → (∀ x ∈ l, 0 ≤ f x) → f a ≤ (l.map f).sum
  | [], a, h, _ => (List.not_mem_nil h).elim
  | x :: r, a, h, n => by
    simp only [List.map_cons, List.sum_cons]
    have h0 := n x List.mem_cons_self
    have hr : 0 ≤ (r.map f).sum := by
      have := sum_le (f := fun _ => (0 : Int)) (g := f) (l := r) fun y hy => n y (List.mem_cons_of_mem _ hy)
      rw [sum_zero fun _ _ => rfl] at this
      exact this
    rcases List.mem_cons.mp h with rfl | h
    · omega
    · have := one_le_sum h fun y hy => n y (List.mem_cons_of_mem _ hy)
      omega
/-- what a pond's spill brings to the others, by weights -/
def giveW (Pp : Pi) (u : Str → Int) (x : Str) : Int := ((Pp.filter fun p => decide (p.1.1 = x)).map fun p => p.2 * u p.1.2).sum
/-- weights by which each spill takes away -/
theorem weights {B : Br} {Pp : Pi} (good : Good B Pp) : ∃ u : Str → Int, (∀ x, 0 ≤ u x) ∧ ∀ x ∈ nms B, giveW Pp u x + 1 ≤ val0 B x * u x := by
  have wf := good.wf
  have hd : ∃ d : Str → Nat, ∀ x ∈ nms B, OpnN B Pp (d x) x ∧ ∀ j, OpnN B Pp j x → d x ≤ j := by
    have h : ∀ x, ∃ k, x ∈ nms B → OpnN B Pp k x ∧ ∀ j, OpnN B Pp j x → k ≤ j := fun x => by
      by_cases m : x ∈ nms B
      · obtain ⟨k, a, b⟩ := least (opn_num (good.op x m))
        exact ⟨k, fun _ => ⟨a, b⟩⟩
      · exact ⟨0, fun z => absurd z m⟩
    exact ⟨fun x => (h x).choose, fun x m => (h x).choose_spec m⟩
  obtain ⟨d, hd⟩ := hd
  obtain ⟨N, hN⟩ := bound_of d (nms B)
  have g0 : ∀ k : Nat, (1 : Int) ≤ 64 ^ k := fun k => Int.pow_pos (by decide)
  have mono : ∀ {i j : Nat}, i ≤ j → (64 : Int) ^ i ≤ 64 ^ j := fun {i j} h => by
    obtain ⟨e, rfl⟩ := Nat.le.dest h
    rw [Int.pow_add]
    have h1 := g0 e
    have h2 := g0 i
    have := Int.mul_le_mul_of_nonneg_left h1 (show (0 : Int) ≤ 64 ^ i by omega)
    omega
  refine ⟨fun x => 61 * 64 ^ N - 64 ^ (N - d x), fun x => ?_, fun x mx => ?_⟩
  · have := mono (show N - d x ≤ N by omega)
    have := g0 N
    show 0 ≤ 61 * (64 : Int) ^ N - 64 ^ (N - d x)
    omega
  obtain ⟨b, gb⟩ := getB_some mx
  have eb : val0 B x = b := by unfold val0; rw [gb]; rfl
  have rb := (wf.rb _ (getB_mem gb)).2
  have rb1 : 1 ≤ b := rb.1
  have rb2 : b ≤ 60 := rb.2
  have fit : outW Pp x ≤ b := (good.fit _ (getB_mem gb)).1
  rw [eb]
  have sp : giveW Pp (fun x => 61 * 64 ^ N - 64 ^ (N - d x)) x = outW Pp x * (61 * 64 ^ N) - ((Pp.filter fun p => decide (p.1.1 = x)).map fun p => p.2 * 64 ^ (N - d p.1.2)).sum := by
    unfold giveW outW sumOf
    rw [← sum_mul, ← sum_sub2]
    congr 1
    refine List.map_congr_left fun p _ => ?_
    rw [Int.mul_sub]
  have nn : ∀ p ∈ Pp.filter fun p => decide (p.1.1 = x), 0 ≤ p.2 * (64 : Int) ^ (N - d p.1.2) := fun p hp => by
    have h1 := (wf.rp p (List.mem_filter.mp hp).1).2.2.2.1
    have h2 := g0 (N - d p.1.2)
    exact Int.mul_nonneg (by omega) (by omega)
  show giveW Pp (fun x => 61 * 64 ^ N - 64 ^ (N - d x)) x + 1 ≤ b * (61 * 64 ^ N - 64 ^ (N - d x))
  rw [sp, Int.mul_sub]
  have gN := g0 N
  obtain ⟨h1, h2⟩ := hd x mx
  cases e : d x with
  | zero =>
    rw [e] at h1
    cases h1 with
    | soak s1 s2 =>
      have eb2 := getB_of_mem wf.nb s1
      rw [gb] at eb2
      have eb3 := Option.some.inj eb2
      rw [← eb3] at s2
      have q1 : outW Pp x * (61 * 64 ^ N) ≤ (b - 1) * (61 * 64 ^ N) := Int.mul_le_mul_of_nonneg_right (by omega) (by omega)
      rw [Int.sub_mul, Int.one_mul] at q1
      have q2 : b * (64 : Int) ^ (N - 0) ≤ 60 * 64 ^ N := by rw [Nat.sub_zero]; exact Int.mul_le_mul_of_nonneg_right rb2 (by omega)
      have q3 : 0 ≤ ((Pp.filter fun p => decide (p.1.1 = x)).map fun p => p.2 * (64 : Int) ^ (N - d p.1.2)).sum := by
        have := sum_le (f := fun _ => (0 : Int)) (g := fun p : (Str × Str) × Int => p.2 * (64 : Int) ^ (N - d p.1.2)) nn
        rw [sum_zero fun _ _ => rfl] at this
        exact this
      omega
  | succ k =>
    rw [e] at h1
    cases h1 with
    | @step _ y w _ s1 s2 =>
      have my : y ∈ nms B := (wf.rp _ s1).2.1
      have dy := (hd y my).2 k s2
      have dN := hN x mx
      have w1 : 1 ≤ w := (wf.rp _ s1).2.2.2.1
      have mp : ((x, y), w) ∈ Pp.filter fun p => decide (p.1.1 = x) := List.mem_filter.mpr ⟨s1, decide_eq_true rfl⟩
      have q0 := one_le_sum (f := fun p : (Str × Str) × Int => p.2 * (64 : Int) ^ (N - d p.1.2)) mp nn
      have q0' : w * (64 : Int) ^ (N - d y) ≤ ((Pp.filter fun p => decide (p.1.1 = x)).map fun p => p.2 * (64 : Int) ^ (N - d p.1.2)).sum := q0
      have q1 : (64 : Int) ^ (N - (k + 1) + 1) ≤ 64 ^ (N - d y) := mono (by omega)
      rw [Int.pow_succ] at q1
      have gy := g0 (N - d y)
      have q2 : 1 * (64 : Int) ^ (N - d y) ≤ w * 64 ^ (N - d y) := Int.mul_le_mul_of_nonneg_right w1 (by omega)
      have q3 : outW Pp x * (61 * 64 ^ N) ≤ b * (61 * 64 ^ N) := Int.mul_le_mul_of_nonneg_right fit (by omega)
      have gk := g0 (N - (k + 1))
      have q4 : b * (64 : Int) ^ (N - (k + 1)) ≤ 60 * 64 ^ (N - (k + 1)) := Int.mul_le_mul_of_nonneg_right rb2 (by omega)
      omega
/-- all counts together have a bound, as long as no water is below so much -/
theorem counts_bound {B : Br} {Pp : Pi} (good : Good B Pp) (Qp : Br) (W : Int) : ∃ M : Int, ∀ Qc : Br, (∀ x ∈ nms B, 0 ≤ val0 Qc x) → (∀ x ∈ nms B, W ≤ waterOf B Pp Qp Qc x) → ((nms B).map (val0 Qc)).sum ≤ M := by
  obtain ⟨u, u0, hu⟩ := weights good
  have nd := good.wf.nb
  refine ⟨((nms B).map fun x => val0 Qp x * u x).sum - ((nms B).map fun x => W * u x).sum, fun Qc c0 hw => ?_⟩
  have f1 : ((nms B).map fun z => flowIn Pp Qc z * u z).sum = ((nms B).map fun z => giveW Pp u z * val0 Qc z).sum := by
    have a1 : ((nms B).map fun z => flowIn Pp Qc z * u z) = (nms B).map fun z => ((Pp.filter fun p => decide (p.1.2 = z)).map fun p => p.2 * val0 Qc p.1.1 * u p.1.2).sum := List.map_congr_left fun z _ => by
      unfold flowIn
      rw [← sum_mul]
      congr 1
      refine List.map_congr_left fun p hp => ?_
      rw [of_decide_eq_true (List.mem_filter.mp hp).2]
    have a2 : ((nms B).map fun z => giveW Pp u z * val0 Qc z) = (nms B).map fun z => ((Pp.filter fun p => decide (p.1.1 = z)).map fun p => p.2 * val0 Qc p.1.1 * u p.1.2).sum := List.map_congr_left fun z _ => by
      unfold giveW
      rw [← sum_mul]
      congr 1
      refine List.map_congr_left fun p hp => ?_
      rw [of_decide_eq_true (List.mem_filter.mp hp).2, Int.mul_right_comm]
    rw [a1, a2, sum_by nd (fun p => p.1.2) _ fun p hp => (good.wf.rp p hp).2.1, sum_by nd (fun p => p.1.1) _ fun p hp => (good.wf.rp p hp).1]
  have f2 : ((nms B).map fun x => W * u x).sum ≤ ((nms B).map fun x => waterOf B Pp Qp Qc x * u x).sum := sum_le fun x hx => Int.mul_le_mul_of_nonneg_right (hw x hx) (u0 x)
  have f3 : ((nms B).map fun x => waterOf B Pp Qp Qc x * u x).sum = ((nms B).map fun x => val0 Qp x * u x).sum + ((nms B).map fun z => flowIn Pp Qc z * u z).sum - ((nms B).map fun x => val0 B x * u x * val0 Qc x).sum := by
    rw [← sum_add2, ← sum_sub2]
    congr 1
    refine List.map_congr_left fun x _ => ?_
    rw [water_flow, Int.sub_mul, Int.add_mul, Int.mul_right_comm]
  have f4 : ((nms B).map fun x => giveW Pp u x * val0 Qc x).sum + ((nms B).map (val0 Qc)).sum ≤ ((nms B).map fun x => val0 B x * u x * val0 Qc x).sum := by
    rw [← sum_add2]
    refine sum_le fun x hx => ?_
    have := Int.mul_le_mul_of_nonneg_right (hu x hx) (c0 x hx)
    rw [Int.add_mul, Int.one_mul] at this
    exact this
  omega
end Nl
end
section
set_option maxHeartbeats 1000000
namespace Dt
/-! ### sums -/
def sm : Nat → (Nat → Int) → Int
  | 0, _ => 0
  | k + 1, f => sm k f + f k
theorem sm_congr : ∀ {n : Nat} {f g : Nat → Int}, (∀ k, k < n → f k = g k) → sm n f = sm n g
  | 0, _, _, _ => rfl
  | n + 1, f, g, h => by
    show sm n f + f n = sm n g + g n
    rw [sm_congr (n := n) fun k hk => h k (by omega), h n (by omega)]
theorem sm_add (n : Nat) (f g : Nat → Int) : sm n (fun k => f k + g k) = sm n f + sm n g := by
  induction n with
  | zero => rfl
  | succ n ih =>
    show sm n (fun k => f k + g k) + (f n + g n) = (sm n f + f n) + (sm n g + g n)
    rw [ih]; omega
theorem sm_mul (n : Nat) (x : Int) (f : Nat → Int) : sm n (fun k => x * f k) = x * sm n f := by
  induction n with
  | zero => exact (Int.mul_zero x).symm
  | succ n ih =>
    show sm n (fun k => x * f k) + x * f n = x * (sm n f + f n)
    rw [ih, Int.mul_add]
theorem sm_mulr (n : Nat) (x : Int) (f : Nat → Int) : sm n (fun k => f k * x) = sm n f * x := by
  rw [Int.mul_comm, ← sm_mul]
  exact sm_congr fun k _ => Int.mul_comm _ _
theorem sm_zero {n : Nat} {f : Nat → Int} (h : ∀ k, k < n → f k = 0) : sm n f = 0 := by
  induction n with
  | zero => rfl
  | succ n ih =>
    show sm n f + f n = 0
    rw [ih fun k hk => h k (by omega), h n (by omega)]; rfl
theorem sm_one {n i : Nat} {f : Nat → Int} (hi : i < n) (h : ∀ k, k < n → k ≠ i → f k = 0) : sm n f = f i := by
  induction n with
  | zero => omega
  | succ n ih =>
    show sm n f + f n = f i
    by_cases e : i = n
    · rw [sm_zero fun k hk => h k (by omega) (by omega), e]; omega
    · rw [ih (by omega) fun k hk => h k (by omega), h n (by omega) (by omega)]; omega
theorem sm_two {n i : Nat} {f : Nat → Int} (hi : i + 1 < n) (h : ∀ k, k < n → k ≠ i → k ≠ i + 1 → f k = 0) (e : f i + f (i + 1) = 0) : sm n f = 0 := by
  induction n with
  | zero => omega
  | succ n ih =>
    show sm n f + f n = 0
    by_cases c : i + 1 = n
    · subst c
      rw [sm_one (i := i) (by omega) fun k hk => fun ne => h k (by omega) ne (by omega)]; exact e
    · rw [ih (by omega) fun k hk => h k (by omega), h n (by omega) (by omega) (by omega)]; rfl
theorem sm_le {n : Nat} {f g : Nat → Int} (h : ∀ k, k < n → f k ≤ g k) : sm n f ≤ sm n g := by
  induction n with
  | zero => exact Int.le_refl _
  | succ n ih =>
    show sm n f + f n ≤ sm n g + g n
    have := ih fun k hk => h k (by omega)
    have := h n (by omega)
    omega
theorem sm_sub (n : Nat) (f g : Nat → Int) : sm n (fun k => f k - g k) = sm n f - sm n g := by
  induction n with
  | zero => rfl
  | succ n ih =>
    show sm n (fun k => f k - g k) + (f n - g n) = (sm n f + f n) - (sm n g + g n)
    rw [ih]; omega
theorem sm_swap (n m : Nat) (f : Nat → Nat → Int) : sm n (fun i => sm m (fun j => f i j)) = sm m (fun j => sm n (fun i => f i j)) := by
  induction n with
  | zero => exact (sm_zero fun _ _ => rfl).symm
  | succ n ih =>
    show sm n (fun i => sm m (fun j => f i j)) + sm m (fun j => f n j) = sm m (fun j => sm n (fun i => f i j) + f n j)
    rw [ih, sm_add]
/-! ### determinants, by columns -/
abbrev Mx := Nat → Nat → Int
def skip (k a : Nat) : Nat := if a < k then a else a + 1
def minor (M : Mx) (k : Nat) : Mx := fun a b => M (skip k a) (b + 1)
def sg (k : Nat) : Int := if k % 2 = 0 then 1 else -1
theorem sg_succ (k : Nat) : sg (k + 1) = - sg k := by
  unfold sg
  by_cases h : k % 2 = 0
  · rw [if_pos h, if_neg (by omega)]
  · rw [if_neg h, if_pos (by omega)]; rfl
def det : Nat → Mx → Int
  | 0, _ => 1
  | n + 1, M => sm (n + 1) fun k => sg k * M k 0 * det n (minor M k)
def put (M : Mx) (j : Nat) (v : Nat → Int) : Mx := fun a => if a = j then v else M a
theorem put_same (M : Mx) (j : Nat) (v : Nat → Int) : put M j v j = v := if_pos rfl
theorem put_ne (M : Mx) {j a : Nat} (v : Nat → Int) (h : a ≠ j) : put M j v a = M a := if_neg h
theorem put_id (M : Mx) (j : Nat) : put M j (M j) = M := by
  funext a
  unfold put
  split
  · rename_i h; rw [h]
  · rfl
theorem minor_put_same (M : Mx) (j : Nat) (w : Nat → Int) : minor (put M j w) j = minor M j := by
  funext a b
  unfold minor
  rw [put_ne _ _ (by unfold skip; split <;> omega)]
theorem minor_put_ne (M : Mx) {j k : Nat} (w : Nat → Int) (h : k ≠ j) : minor (put M j w) k = put (minor M k) (if j < k then j else j - 1) (fun b => w (b + 1)) := by
  funext a b
  unfold minor
  by_cases e : a = (if j < k then j else j - 1)
  · rw [e, put_same]
    have : skip k (if j < k then j else j - 1) = j := by
      unfold skip
      by_cases c : j < k
      · rw [if_pos c, if_pos c]
      · rw [if_neg c, if_neg (by omega)]; omega
    rw [this, put_same]
  · rw [put_ne _ _ e]
    have : skip k a ≠ j := by
      intro z
      apply e
      unfold skip at z
      split at z <;> split <;> omega
    rw [put_ne _ _ this]
/-- what stands beyond has no bearing -/
theorem det_congr : ∀ {n : Nat} {M N : Mx}, (∀ a b, a < n → b < n → M a b = N a b) → det n M = det n N
  | 0, _, _, _ => rfl
  | n + 1, M, N, h => by
    refine sm_congr fun k hk => ?_
    rw [h k 0 hk (by omega), det_congr (n := n) (M := minor M k) (N := minor N k) fun a b ha hb => h _ _ (by unfold skip; split <;> omega) (by omega)]
theorem det_lin : ∀ {n j : Nat} (M : Mx) (x y : Int) (u v : Nat → Int), j < n → det n (put M j (fun b => x * u b + y * v b)) = x * det n (put M j u) + y * det n (put M j v)
  | 0, _, _, _, _, _, _, h => by omega
  | n + 1, j, M, x, y, u, v, hj => by
    show sm (n + 1) _ = x * sm (n + 1) _ + y * sm (n + 1) _
    rw [← sm_mul, ← sm_mul, ← sm_add]
    refine sm_congr fun k hk => ?_
    by_cases e : k = j
    · subst e
      rw [put_same, put_same, put_same, minor_put_same, minor_put_same, minor_put_same]
      grind
    · rw [put_ne _ _ e, put_ne _ _ e, put_ne _ _ e, minor_put_ne _ _ e, minor_put_ne _ _ e, minor_put_ne _ _ e,
        det_lin (n := n) (minor M k) x y (fun b => u (b + 1)) (fun b => v (b + 1)) (by split <;> omega)]
      grind
theorem det_adj : ∀ {n j : Nat} {M : Mx}, j + 1 < n → M j = M (j + 1) → det n M = 0
  | 0, _, _, h, _ => by omega
  | n + 1, j, M, hj, e => by
    refine sm_two (i := j) hj (fun k hk h1 h2 => ?_) ?_
    · by_cases c : k < j
      · rw [det_adj (n := n) (j := j - 1) (M := minor M k) (by omega) (by
          funext b
          unfold minor
          have a1 : skip k (j - 1) = j := by unfold skip; split <;> omega
          have a2 : skip k (j - 1 + 1) = j + 1 := by unfold skip; split <;> omega
          rw [a1, a2, e])]
        exact Int.mul_zero _
      · rw [det_adj (n := n) (j := j) (M := minor M k) (by omega) (by
          funext b
          unfold minor
          have a1 : skip k j = j := by unfold skip; split <;> omega
          have a2 : skip k (j + 1) = j + 1 := by unfold skip; split <;> omega
          rw [a1, a2, e])]
        exact Int.mul_zero _
    · have m : minor M j = minor M (j + 1) := by
        funext a b
        unfold minor
        by_cases c : a = j
        · have a1 : skip j a = j + 1 := by unfold skip; split <;> omega
          have a2 : skip (j + 1) a = j := by unfold skip; split <;> omega
          rw [a1, a2, e]
        · have : skip j a = skip (j + 1) a := by unfold skip; split <;> split <;> omega
          rw [this]
      rw [m, e, sg_succ]
      grind
theorem put_put (M : Mx) {i j : Nat} (u v : Nat → Int) (h : i ≠ j) : put (put M i u) j v = put (put M j v) i u := by
  funext a
  unfold put
  split
  · rename_i e
    rw [if_neg (by omega)]
  · rfl
theorem det_swap {n j : Nat} (M : Mx) (u v : Nat → Int) (hj : j + 1 < n) : det n (put (put M j u) (j + 1) v) = - det n (put (put M j v) (j + 1) u) := by
  have z : ∀ w : Nat → Int, det n (put (put M j w) (j + 1) w) = 0 := fun w => det_adj hj (by rw [put_ne _ _ (by omega), put_same, put_same])
  have h := z (fun b => 1 * u b + 1 * v b)
  have l1 : ∀ w : Nat → Int, det n (put (put M j (fun b => 1 * u b + 1 * v b)) (j + 1) w) = 1 * det n (put (put M j u) (j + 1) w) + 1 * det n (put (put M j v) (j + 1) w) := fun w => by
    rw [put_put M _ w (by omega), put_put M u w (by omega), put_put M v w (by omega)]
    exact det_lin _ 1 1 u v (by omega)
  rw [det_lin _ 1 1 u v (by omega), l1, l1, z u, z v] at h
  omega
theorem det_alt : ∀ {m n i j : Nat} {M : Mx}, j = i + m + 1 → j < n → M i = M j → det n M = 0
  | 0, n, i, j, M, h, hj, e => by
    subst h
    exact det_adj hj e
  | m + 1, n, i, j, M, h, hj, e => by
    obtain ⟨k, rfl⟩ : ∃ k, j = k + 1 := ⟨j - 1, by omega⟩
    have e1 : M = put (put M k (M k)) (k + 1) (M (k + 1)) := by rw [put_id, put_id]
    rw [e1, det_swap _ _ _ hj, det_alt (m := m) (n := n) (i := i) (j := k) (by omega) (by omega) (by
      rw [put_ne _ _ (by omega), put_ne _ _ (by omega), put_ne _ _ (by omega), put_same, e])]
    rfl
theorem det_two {n i j : Nat} {M : Mx} (ne : i ≠ j) (hi : i < n) (hj : j < n) (e : M i = M j) : det n M = 0 := by
  rcases Nat.lt_or_ge i j with c | c
  · exact det_alt (m := j - i - 1) (i := i) (by omega) hj e
  · exact det_alt (m := i - j - 1) (i := j) (j := i) (by omega) hi e.symm
theorem det_sum {n j : Nat} (M : Mx) (hj : j < n) (V : Nat → Nat → Int) (x : Nat → Int) : ∀ m : Nat, det n (put M j (fun b => sm m fun k => x k * V k b)) = sm m fun k => x k * det n (put M j (V k))
  | 0 => by
    have := det_lin M 0 0 (fun _ => 0) (fun _ => 0) hj
    simp only [Int.zero_mul, Int.add_zero] at this
    exact this
  | m + 1 => by
    have := det_lin M 1 (x m) (fun b => sm m fun k => x k * V k b) (V m) hj
    rw [det_sum M hj V x m, Int.one_mul] at this
    rw [show (fun b => sm (m + 1) fun k => x k * V k b) = fun b => 1 * (fun b => sm m fun k => x k * V k b) b + x m * V m b from by
      funext b
      show sm m _ + _ = 1 * _ + _
      rw [Int.one_mul]]
    exact this
/-- what the columns, so many times each, come to tells how many times -/
theorem cramer {n j : Nat} {M : Mx} {x y : Nat → Int} (hj : j < n) (h : ∀ i, i < n → sm n (fun k => x k * M k i) = y i) : det n (put M j y) = x j * det n M := by
  have e1 : det n (put M j y) = det n (put M j (fun b => sm n fun k => x k * M k b)) := det_congr fun a b ha hb => by
    unfold put
    split
    · exact (h b hb).symm
    · rfl
  rw [e1, det_sum M hj M x n, sm_one (i := j) hj fun k hk ne => ?_, put_id]
  rw [det_two (i := k) (j := j) (M := put M j (M k)) ne hk hj (by rw [put_ne _ _ ne, put_same])]
  exact Int.mul_zero _
theorem det_id : ∀ {n : Nat}, det n (fun a b => if a = b then 1 else 0) = 1
  | 0 => rfl
  | n + 1 => by
    show sm (n + 1) _ = 1
    rw [sm_one (i := 0) (by omega) fun k _ ne => by simp [ne]]
    have : minor (fun a b => if a = b then (1 : Int) else 0) 0 = fun a b => if a = b then 1 else 0 := by
      funext a b
      unfold minor skip
      rw [if_neg (by omega)]
      simp
    rw [this, det_id]
    rfl
/-! ### how great they are -/
def fact : Nat → Int
  | 0 => 1
  | n + 1 => ((n : Int) + 1) * fact n
theorem fact_pos : ∀ n : Nat, 1 ≤ fact n
  | 0 => by decide
  | n + 1 => by
    have := fact_pos n
    show 1 ≤ ((n : Int) + 1) * fact n
    have := Int.mul_le_mul_of_nonneg_right (show (1 : Int) ≤ (n : Int) + 1 by omega) (show 0 ≤ fact n by omega)
    omega
theorem sm_abs {n : Nat} {f : Nat → Int} {c : Int} (h : ∀ k, k < n → -c ≤ f k ∧ f k ≤ c) : -((n : Int) * c) ≤ sm n f ∧ sm n f ≤ (n : Int) * c := by
  induction n with
  | zero => simp [sm]
  | succ n ih =>
    have i := ih fun k hk => h k (by omega)
    have j := h n (by omega)
    show -(((n + 1 : Nat) : Int) * c) ≤ sm n f + f n ∧ sm n f + f n ≤ ((n + 1 : Nat) : Int) * c
    rw [show ((n + 1 : Nat) : Int) * c = (n : Int) * c + c by rw [Int.natCast_succ, Int.add_mul, Int.one_mul]]
    omega
theorem abs_mul {x y a b : Int} (ha : 0 ≤ a) (hx : -a ≤ x ∧ x ≤ a) (hy : -b ≤ y ∧ y ≤ b) (hb : 0 ≤ b) : -(a * b) ≤ x * y ∧ x * y ≤ a * b := by
  have h1 := Int.mul_nonneg (show 0 ≤ a - x by omega) (show 0 ≤ b - y by omega)
  have h2 := Int.mul_nonneg (show 0 ≤ a + x by omega) (show 0 ≤ b + y by omega)
  have h3 := Int.mul_nonneg (show 0 ≤ a - x by omega) (show 0 ≤ b + y by omega)
  have h4 := Int.mul_nonneg (show 0 ≤ a + x by omega) (show 0 ≤ b - y by omega)
  constructor <;> grind
theorem det_abs {c : Int} (hc : 1 ≤ c) : ∀ {n : Nat} {M : Mx}, (∀ a b, a < n → b < n → -c ≤ M a b ∧ M a b ≤ c) → -(fact n * c ^ n) ≤ det n M ∧ det n M ≤ fact n * c ^ n
  | 0, M, _ => by simp [fact, det]
  | n + 1, M, h => by
    have p0 : 0 ≤ fact n * c ^ n := Int.mul_nonneg (by have := fact_pos n; omega) (Int.pow_nonneg (by omega))
    have := sm_abs (n := n + 1) (f := fun k => sg k * M k 0 * det n (minor M k)) (c := c * (fact n * c ^ n)) fun k hk => by
      refine abs_mul (by omega) ?_ (det_abs hc fun a b ha hb => h _ _ (by unfold skip; split <;> omega) (by omega)) p0
      have := h k 0 hk (by omega)
      unfold sg
      split <;> omega
    show -(fact (n + 1) * c ^ (n + 1)) ≤ sm (n + 1) _ ∧ sm (n + 1) _ ≤ fact (n + 1) * c ^ (n + 1)
    have e : ((n + 1 : Nat) : Int) * (c * (fact n * c ^ n)) = fact (n + 1) * c ^ (n + 1) := by
      show _ = ((n : Int) + 1) * fact n * c ^ (n + 1)
      rw [Int.natCast_succ, Int.pow_succ]
      grind
    rw [e] at this
    exact this
/-- one column may be far greater -/
theorem det_abs1 {c y : Int} (hc : 1 ≤ c) (hy : 0 ≤ y) {n j : Nat} {M : Mx} {v : Nat → Int} (hj : j < n) (h : ∀ a b, a < n → b < n → -c ≤ M a b ∧ M a b ≤ c) (hv : ∀ b, b < n → -y ≤ v b ∧ v b ≤ y) :
    -((n : Int) * (y * (fact n * c ^ n))) ≤ det n (put M j v) ∧ det n (put M j v) ≤ (n : Int) * (y * (fact n * c ^ n)) := by
  have e1 : det n (put M j v) = det n (put M j (fun b => sm n fun k => v k * (fun k b => if k = b then (1 : Int) else 0) k b)) := det_congr fun a b ha hb => by
    unfold put
    split
    · rename_i hab
      show v b = sm n fun k => v k * (if k = b then (1 : Int) else 0)
      rw [sm_one (i := b) hb fun k _ ne => by simp [ne]]
      simp
    · rfl
  rw [e1, det_sum M hj]
  have p0 : 0 ≤ fact n * c ^ n := Int.mul_nonneg (by have := fact_pos n; omega) (Int.pow_nonneg (by omega))
  refine sm_abs fun k hk => abs_mul hy (hv k hk) (det_abs hc fun a b ha hb => ?_) p0
  unfold put
  split
  · show -c ≤ (if k = b then (1 : Int) else 0) ∧ (if k = b then (1 : Int) else 0) ≤ c
    split <;> omega
  · exact h a b ha hb
end Dt
end
section
set_option maxHeartbeats 1000000
namespace Dt
/-- the columns: those that are solved for as they are, the others as ones -/
def En (M : Mx) (S : Nat → Bool) : Mx := fun j i => if S j = true then M j i else if j = i then 1 else 0
/-- rows solved for some of the unknowns, over one bottom -/
structure Bz (n : Nat) (M : Mx) (S : Nat → Bool) (d : Int) (R : Nat → Nat → Int) : Prop where
  dt : det n (En M S) = d
  pos : 0 < d
  eq : ∀ c, c ≤ n → ∀ i, i < n → sm n (fun k => R k c * En M S k i) = d * M c i
  off : ∀ i j, i < n → j < n → S j = false → i ≠ j → R i j ≤ 0
  top : ∀ i, i < n → S i = true → 0 ≤ R i n
/-- what the net gives -/
structure Mn (n : Nat) (M : Mx) (h : Nat → Int) : Prop where
  off : ∀ i j, i < n → j < n → i ≠ j → M j i ≤ 0
  h0 : ∀ i, i < n → 0 ≤ h i
  hM : ∀ j, j < n → 1 ≤ sm n (fun i => h i * M j i)
theorem bz_start {n : Nat} {M : Mx} {h : Nat → Int} (m : Mn n M h) : Bz n M (fun _ => false) 1 (fun i c => M c i) where
  dt := det_id
  pos := by decide
  eq := fun c _ i hi => by
    rw [sm_one (i := i) hi fun k _ ne => by simp [En, ne]]
    simp [En]
  off := fun i j hi hj _ ne => m.off i j hi hj ne
  top := fun i _ z => Bool.noConfusion z
theorem scale {n j : Nat} (M : Mx) (x : Int) (u : Nat → Int) (hj : j < n) : det n (put M j (fun b => x * u b)) = x * det n (put M j u) := by
  have := det_lin M x 0 u u hj
  rw [Int.zero_mul, Int.add_zero] at this
  rw [← this]
  congr 2
  funext b
  rw [Int.zero_mul, Int.add_zero]
section
variable {n : Nat} {M : Mx} {S : Nat → Bool} {d : Int} {R : Nat → Nat → Int}
theorem Bz.val (z : Bz n M S d R) {j c : Nat} (hj : j < n) (hc : c ≤ n) : R j c = det n (put (En M S) j (M c)) := by
  have := cramer (M := En M S) (x := fun k => R k c) (y := fun i => d * M c i) hj (z.eq c hc)
  rw [scale _ _ _ hj, z.dt, Int.mul_comm (R j c) d] at this
  exact (Int.eq_of_mul_eq_mul_left (by have := z.pos; omega) this).symm
def S1 (S : Nat → Bool) (t : Nat) : Nat → Bool := fun j => if j = t then true else S j
theorem En_S1 (S : Nat → Bool) (t : Nat) : En M (S1 S t) = put (En M S) t (M t) := by
  funext j i
  unfold En S1 put
  by_cases e : j = t
  · rw [if_pos e, if_pos rfl, if_pos e, e]
  · rw [if_neg e, if_neg e]
def num (d : Int) (R : Nat → Nat → Int) (t k c : Nat) : Int := if k = t then d * R t c else R k c * R t t - R k t * R t c
theorem num_eq (z : Bz n M S d R) {t c i : Nat} (ht : t < n) (hS : S t = false) (hc : c ≤ n) (hi : i < n) : sm n (fun k => num d R t k c * En M (S1 S t) k i) = R t t * d * M c i := by
  have e : ∀ k, k < n → num d R t k c * En M (S1 S t) k i = (R t t * (R k c * En M S k i) - R t c * (R k t * En M S k i)) + (if k = t then d * R t c * M t i else 0) := fun k _ => by
    rw [En_S1]
    unfold num put
    by_cases e : k = t
    · rw [if_pos e, if_pos e, if_pos e, e]
      grind
    · rw [if_neg e, if_neg e, if_neg e]
      grind
  rw [sm_congr e, sm_add, sm_sub, sm_mul, sm_mul, z.eq c hc i hi, z.eq t (by omega) i hi, sm_one (i := t) ht fun k _ ne => if_neg ne, if_pos rfl]
  grind
/-- each division comes out even -/
theorem num_div (z : Bz n M S d R) {t c j : Nat} (ht : t < n) (hS : S t = false) (hp : R t t ≠ 0) (hc : c ≤ n) (hj : j < n) : num d R t j c = d * det n (put (En M (S1 S t)) j (M c)) := by
  have hd : det n (En M (S1 S t)) = R t t := by rw [En_S1, ← z.val ht (by omega)]
  have := cramer (M := En M (S1 S t)) (x := fun k => num d R t k c) (y := fun i => R t t * d * M c i) hj fun i hi => num_eq z ht hS hc hi
  rw [scale _ _ _ hj, hd, Int.mul_assoc, Int.mul_comm (num d R t j c)] at this
  exact (Int.eq_of_mul_eq_mul_left hp this).symm
theorem bz_step (z : Bz n M S d R) {t : Nat} (ht : t < n) (hS : S t = false) (hp : 0 < R t t) (hr : 0 ≤ R t n) {R' : Nat → Nat → Int}
    (h1 : ∀ c, c ≤ n → R' t c = R t c) (h2 : ∀ i c, i < n → c ≤ n → i ≠ t → d * R' i c = R i c * R t t - R i t * R t c) : Bz n M (S1 S t) (R t t) R' := by
  have nu : ∀ k c, k < n → c ≤ n → num d R t k c = d * R' k c := fun k c hk hc => by
    unfold num
    by_cases e : k = t
    · rw [if_pos e, e, h1 c hc]
    · rw [if_neg e, h2 k c hk hc e]
  have d0 := z.pos
  refine ⟨by rw [En_S1, ← z.val ht (by omega)], hp, fun c hc i hi => ?_, fun i j hi hj hS' ne => ?_, fun i hi hS' => ?_⟩
  · have := num_eq z ht hS hc hi
    rw [sm_congr fun k hk => show num d R t k c * En M (S1 S t) k i = d * (R' k c * En M (S1 S t) k i) by rw [nu k c hk hc, Int.mul_assoc], sm_mul] at this
    refine Int.eq_of_mul_eq_mul_left (show d ≠ 0 by omega) ?_
    rw [this]
    grind
  · have jt : j ≠ t := fun e => by
      subst e
      unfold S1 at hS'
      simp at hS'
    have Sj : S j = false := by
      unfold S1 at hS'
      rw [if_neg jt] at hS'
      exact hS'
    by_cases e : i = t
    · rw [e, h1 j (by omega)]
      exact z.off t j ht hj Sj (fun q => jt q.symm)
    · have := h2 i j hi (by omega) e
      have a1 := z.off i j hi hj Sj ne
      have a2 := z.off i t hi ht hS e
      have a3 := z.off t j ht hj Sj (fun q => jt q.symm)
      have m1 : R i j * R t t ≤ 0 := Int.mul_nonpos_of_nonpos_of_nonneg a1 (by omega)
      have m2 : 0 ≤ R i t * R t j := Int.mul_nonneg_of_nonpos_of_nonpos a2 a3
      rcases Int.lt_or_le 0 (R' i j) with c | c
      · have := Int.mul_pos d0 c
        omega
      · exact c
  · by_cases e : i = t
    · rw [e, h1 n (by omega)]
      exact hr
    · have Si : S i = true := by
        unfold S1 at hS'
        rw [if_neg e] at hS'
        exact hS'
      have := h2 i n hi (by omega) e
      have a1 := z.top i hi Si
      have a2 := z.off i t hi ht hS e
      have m1 : 0 ≤ R i n * R t t := Int.mul_nonneg a1 (by omega)
      have m2 : R i t * R t n ≤ 0 := Int.mul_nonpos_of_nonpos_of_nonneg a2 hr
      rcases Int.lt_or_le (R' i n) 0 with c | c
      · have := Int.mul_neg_of_pos_of_neg d0 c
        omega
      · exact c
/-- what is owed nowhere is there -/
theorem mono {h : Nat → Int} (m : Mn n M h) {z : Nat → Int} (hz : ∀ i, i < n → z i < 0 → 0 ≤ sm n (fun k => z k * M k i)) : ∀ j, j < n → 0 ≤ z j := by
  intro j hj
  rcases Int.lt_or_le (z j) 0 with c | c
  · exfalso
    have W0 : 0 ≤ sm n (fun i => (if z i < 0 then h i else 0) * sm n (fun k => z k * M k i)) := by
      have q := sm_le (n := n) (f := fun _ => 0) (g := fun i => (if z i < 0 then h i else 0) * sm n (fun k => z k * M k i)) fun i hi => ?_
      · rw [sm_zero (f := fun _ => 0) fun _ _ => rfl] at q
        exact q
      by_cases e : z i < 0
      · rw [if_pos e]; exact Int.mul_nonneg (m.h0 i hi) (hz i hi e)
      · rw [if_neg e, Int.zero_mul]; exact Int.le_refl _
    have W1 : sm n (fun i => (if z i < 0 then h i else 0) * sm n (fun k => z k * M k i)) = sm n (fun k => z k * sm n (fun i => (if z i < 0 then h i else 0) * M k i)) := by
      rw [sm_congr fun i _ => (sm_mul n (if z i < 0 then h i else 0) fun k => z k * M k i).symm, sm_swap]
      refine sm_congr fun k _ => ?_
      rw [← sm_mul]
      refine sm_congr fun i _ => ?_
      grind
    have W2 : sm n (fun k => z k * sm n (fun i => (if z i < 0 then h i else 0) * M k i)) ≤ sm n (fun k => if z k < 0 then -1 else 0) := sm_le fun k hk => by
      by_cases e : z k < 0
      · rw [if_pos e]
        have g : 1 ≤ sm n (fun i => (if z i < 0 then h i else 0) * M k i) := by
          refine Int.le_trans (m.hM k hk) (sm_le fun i hi => ?_)
          by_cases e2 : z i < 0
          · rw [if_pos e2]; exact Int.le_refl _
          · rw [if_neg e2, Int.zero_mul]
            exact Int.mul_nonpos_of_nonneg_of_nonpos (m.h0 i hi) (m.off i k hi hk fun q => by rw [q] at e2; exact e2 e)
        have := Int.mul_nonneg (show 0 ≤ - z k by omega) (show 0 ≤ sm n (fun i => (if z i < 0 then h i else 0) * M k i) - 1 by omega)
        grind
      · rw [if_neg e]
        have g : sm n (fun i => (if z i < 0 then h i else 0) * M k i) ≤ 0 := by
          have q := sm_le (n := n) (f := fun i => (if z i < 0 then h i else 0) * M k i) (g := fun _ => 0) fun i hi => by
            by_cases e2 : z i < 0
            · rw [if_pos e2]
              exact Int.mul_nonpos_of_nonneg_of_nonpos (m.h0 i hi) (m.off i k hi hk fun q => by rw [q] at e2; exact e e2)
            · rw [if_neg e2, Int.zero_mul]; exact Int.le_refl _
          rw [sm_zero (f := fun _ => 0) fun _ _ => rfl] at q
          exact q
        exact Int.mul_nonpos_of_nonneg_of_nonpos (by omega) g
    have W3 : sm n (fun k => if z k < 0 then (-1 : Int) else 0) ≤ -1 := by
      have q := sm_le (n := n) (f := fun k => if z k < 0 then (-1 : Int) else 0) (g := fun k => if k = j then -1 else 0) fun k hk => by
        by_cases e : k = j
        · rw [if_pos e, if_pos (by rw [e]; exact c)]; exact Int.le_refl _
        · rw [if_neg e]
          split <;> omega
      rw [sm_one (f := fun k => if k = j then (-1 : Int) else 0) hj fun k _ ne => if_neg ne, if_pos rfl] at q
      exact q
    omega
  · exact c
theorem piv_pos {h : Nat → Int} (m : Mn n M h) (z : Bz n M S d R) {t : Nat} (ht : t < n) (hS : S t = false) : 0 < R t t := by
  rcases Int.lt_or_le 0 (R t t) with c | c
  · exact c
  · exfalso
    have d0 := z.pos
    have q := mono m (z := fun k => if k = t then -d else if S k = true then R k t else 0) (fun i hi _ => ?_) t ht
    · simp only [if_pos] at q
      omega
    · have e : ∀ k, k < n → (if k = t then -d else if S k = true then R k t else 0) * M k i = (R k t * En M S k i - (if k = i then (if S i = true then 0 else R i t) else 0)) - (if k = t then d * M t i else 0) := fun k _ => by
        unfold En
        by_cases e1 : k = t
        · subst e1
          rw [if_pos rfl, if_pos rfl, hS]
          by_cases e2 : k = i
          · subst e2
            simp [hS, Int.neg_mul]
          · simp [e2, Int.neg_mul]
        · rw [if_neg e1, if_neg e1]
          by_cases e3 : S k = true
          · rw [if_pos e3, if_pos e3]
            by_cases e2 : k = i
            · subst e2
              simp [e3]
            · simp [e2]
          · rw [if_neg e3, if_neg e3]
            by_cases e2 : k = i
            · subst e2
              simp [e3]
            · simp [e2]
      rw [sm_congr e, sm_sub, sm_sub, z.eq t (by omega) i hi, sm_one (i := i) hi fun k _ ne => if_neg ne, sm_one (i := t) ht fun k _ ne => if_neg ne, if_pos rfl, if_pos rfl]
      by_cases e4 : S i = true
      · rw [if_pos e4]; omega
      · rw [if_neg e4]
        have : R i t ≤ 0 := by
          by_cases e5 : i = t
          · rw [e5]; exact c
          · exact z.off i t hi ht hS e5
        omega
/-- no counts at which all would rest are less -/
theorem tops_le {h : Nat → Int} (m : Mn n M h) (z : Bz n M S d R) {y : Nat → Int} (y0 : ∀ i, i < n → 0 ≤ y i) (hy : ∀ i, i < n → M n i ≤ sm n (fun k => y k * M k i)) : ∀ i, i < n → S i = true → R i n ≤ d * y i := by
  intro i hi hS
  have d0 := z.pos
  have q := mono m (z := fun k => d * y k - (if S k = true then R k n else 0)) (fun i hi neg => ?_) i hi
  · simp only [hS, if_true] at q
    omega
  · have Si : S i = true := by
      by_cases e : S i = true
      · exact e
      · rw [if_neg e] at neg
        have := Int.mul_nonneg (show 0 ≤ d by omega) (y0 i hi)
        omega
    have e : ∀ k, k < n → (d * y k - (if S k = true then R k n else 0)) * M k i = d * (y k * M k i) - R k n * En M S k i := fun k _ => by
      unfold En
      by_cases e1 : S k = true
      · rw [if_pos e1, if_pos e1]; grind
      · have : k ≠ i := fun e => e1 (by rw [e]; exact Si)
        rw [if_neg e1, if_neg e1, if_neg this]; grind
    rw [sm_congr e, sm_sub, sm_mul, z.eq n (Nat.le_refl _) i hi]
    have := Int.mul_nonneg (show 0 ≤ d by omega) (show 0 ≤ sm n (fun k => y k * M k i) - M n i by have := hy i hi; omega)
    grind
/-- the same for counts in fractions, over any bottom -/
theorem tops_leE {h : Nat → Int} (m : Mn n M h) (z : Bz n M S d R) {y : Nat → Int} {e : Int} (e0 : 0 ≤ e) (y0 : ∀ i, i < n → 0 ≤ y i) (hy : ∀ i, i < n → e * M n i ≤ sm n (fun k => y k * M k i)) : ∀ i, i < n → S i = true → e * R i n ≤ d * y i := by
  intro i hi hS
  have d0 := z.pos
  have q := mono m (z := fun k => d * y k - e * (if S k = true then R k n else 0)) (fun i hi neg => ?_) i hi
  · simp only [hS, if_true] at q
    omega
  · have Si : S i = true := by
      by_cases c : S i = true
      · exact c
      · rw [if_neg c, Int.mul_zero] at neg
        have := Int.mul_nonneg (show 0 ≤ d by omega) (y0 i hi)
        omega
    have e1 : ∀ k, k < n → (d * y k - e * (if S k = true then R k n else 0)) * M k i = d * (y k * M k i) - e * (R k n * En M S k i) := fun k _ => by
      unfold En
      by_cases c : S k = true
      · rw [if_pos c, if_pos c]; grind
      · have : k ≠ i := fun e => c (by rw [e]; exact Si)
        rw [if_neg c, if_neg c, if_neg this]; grind
    rw [sm_congr e1, sm_sub, sm_mul, sm_mul, z.eq n (Nat.le_refl _) i hi]
    have := Int.mul_nonneg (show 0 ≤ d by omega) (show 0 ≤ sm n (fun k => y k * M k i) - e * M n i by have := hy i hi; omega)
    grind
/-- where nothing is left over, they are such themselves -/
theorem tops_ok (z : Bz n M S d R) (hd : ∀ i, i < n → S i = false → R i n ≤ 0) : ∀ i, i < n → d * M n i ≤ sm n (fun k => (if S k = true then R k n else 0) * M k i) := by
  intro i hi
  have e : ∀ k, k < n → (if S k = true then R k n else 0) * M k i = R k n * En M S k i - (if k = i then (if S i = true then 0 else R i n) else 0) := fun k _ => by
    unfold En
    by_cases e1 : S k = true
    · rw [if_pos e1, if_pos e1]
      by_cases e2 : k = i
      · subst e2; simp [e1]
      · simp [e2]
    · rw [if_neg e1, if_neg e1]
      by_cases e2 : k = i
      · subst e2; simp [e1]
      · simp [e2]
  rw [sm_congr e, sm_sub, z.eq n (Nat.le_refl _) i hi, sm_one (i := i) hi fun k _ ne => if_neg ne, if_pos rfl]
  by_cases e1 : S i = true
  · rw [if_pos e1]; omega
  · rw [if_neg e1]
    have := hd i hi (by simpa using e1)
    omega
/-- how great the rows' numbers are -/
theorem Bz.abs (z : Bz n M S d R) {c y : Int} (hc : 1 ≤ c) (hy : c ≤ y) (hM : ∀ a b, a < n → b < n → -c ≤ M a b ∧ M a b ≤ c) (hr : ∀ b, b < n → -y ≤ M n b ∧ M n b ≤ y) {i k : Nat} (hi : i < n) (hk : k ≤ n) :
    -((n : Int) * (y * (fact n * c ^ n))) ≤ R i k ∧ R i k ≤ (n : Int) * (y * (fact n * c ^ n)) := by
  rw [z.val hi hk]
  refine det_abs1 hc (by omega) hi (fun a b ha hb => ?_) fun b hb => ?_
  · unfold En
    split
    · exact hM a b ha hb
    · split <;> omega
  · rcases Nat.lt_or_ge k n with q | q
    · have := hM k b q hb; omega
    · have : k = n := by omega
      rw [this]; exact hr b hb
end
end Dt
end
section
set_option maxHeartbeats 1000000
namespace Nl
open PySem PySem.Spec PyProof.Rows L2 Nt
/-! ### a net's equations -/
theorem sm_first (n : Nat) (f : Nat → Int) : Dt.sm (n + 1) f = f 0 + Dt.sm n (fun i => f (i + 1)) := by
  induction n with
  | zero => show 0 + f 0 = f 0 + 0; omega
  | succ n ih =>
    show Dt.sm (n + 1) f + f (n + 1) = f 0 + (Dt.sm n (fun i => f (i + 1)) + f (n + 1))
    rw [ih]; omega
theorem sm_list {α : Type} (g : α → Int) (e : α) : ∀ l : List α, Dt.sm l.length (fun i => g (l.getD i e)) = (l.map g).sum
  | [] => rfl
  | a :: l => by
    show Dt.sm (l.length + 1) _ = g a + (l.map g).sum
    rw [sm_first, ← sm_list g e l]
    rfl
theorem getP_sum {Pp : Pi} (nd : (Pp.map Prod.fst).Nodup) (q : Str × Str) : (getP Pp q).getD 0 = ((Pp.filter fun p => decide (p.1 = q)).map (·.2)).sum := by
  induction Pp with
  | nil => rfl
  | cons p r ih =>
    rw [List.map_cons, List.nodup_cons] at nd
    rw [List.filter_cons]
    unfold getP
    rw [List.find?_cons]
    by_cases c : p.1 = q
    · rw [decide_eq_true c, if_pos rfl]
      have : r.filter (fun p => decide (p.1 = q)) = [] := List.filter_eq_nil_iff.mpr fun x hx => by
        have : x.1 ≠ q := fun e => nd.1 (by rw [c, ← e]; exact List.mem_map.mpr ⟨x, hx, rfl⟩)
        simpa using this
      rw [this]
      show p.2 = p.2 + 0
      omega
    · rw [decide_eq_false c, if_neg (by decide)]
      exact ih nd.2
theorem wsum_in {B : Br} {Pp : Pi} (wf : Wf Nm B Pp) (f : Str → Int) (z : Str) : ((nms B).map fun x => f x * (getP Pp (x, z)).getD 0).sum = ((insOf Pp z).map fun p => p.2 * f p.1).sum := by
  have e1 : ((nms B).map fun x => f x * (getP Pp (x, z)).getD 0) = (nms B).map fun x => (((Pp.filter fun p => decide (p.1.2 = z)).filter fun p => decide (p.1.1 = x)).map fun p => p.2 * f p.1.1).sum := List.map_congr_left fun x _ => by
    rw [getP_sum wf.np, List.filter_filter]
    have : (Pp.filter fun p => decide (p.1 = (x, z))) = Pp.filter fun p => decide (p.1.1 = x) && decide (p.1.2 = z) := List.filter_congr fun p _ => by
      rw [← Bool.decide_and]
      exact decide_eq_decide.mpr ⟨fun e => by rw [e]; exact ⟨rfl, rfl⟩, fun ⟨a, b⟩ => Prod.ext a b⟩
    rw [this, Int.mul_comm, ← sum_mul]
    congr 1
    refine List.map_congr_left fun p hp => ?_
    have := (List.mem_filter.mp hp).2
    rw [Bool.and_eq_true, decide_eq_true_eq] at this
    rw [this.1]
  rw [e1, sum_by wf.nb (fun p => p.1.1) (fun p => p.2 * f p.1.1) fun p hp => (wf.rp p (List.mem_filter.mp hp).1).1]
  unfold insOf
  rw [List.map_map]
  rfl
theorem wsum_out {B : Br} {Pp : Pi} (wf : Wf Nm B Pp) (f : Str → Int) (z : Str) : ((nms B).map fun x => f x * (getP Pp (z, x)).getD 0).sum = giveW Pp f z := by
  have e1 : ((nms B).map fun x => f x * (getP Pp (z, x)).getD 0) = (nms B).map fun x => (((Pp.filter fun p => decide (p.1.1 = z)).filter fun p => decide (p.1.2 = x)).map fun p => p.2 * f p.1.2).sum := List.map_congr_left fun x _ => by
    rw [getP_sum wf.np, List.filter_filter]
    have : (Pp.filter fun p => decide (p.1 = (z, x))) = Pp.filter fun p => decide (p.1.2 = x) && decide (p.1.1 = z) := List.filter_congr fun p _ => by
      rw [← Bool.decide_and]
      exact decide_eq_decide.mpr ⟨fun e => by rw [e]; exact ⟨rfl, rfl⟩, fun ⟨a, b⟩ => Prod.ext b a⟩
    rw [this, Int.mul_comm, ← sum_mul]
    congr 1
    refine List.map_congr_left fun p hp => ?_
    have := (List.mem_filter.mp hp).2
    rw [Bool.and_eq_true, decide_eq_true_eq] at this
    rw [this.1]
  rw [e1, sum_by wf.nb (fun p => p.1.2) (fun p => p.2 * f p.1.2) fun p hp => (wf.rp p (List.mem_filter.mp hp).1).2.1]
  rfl
theorem no_self {B : Br} {Pp : Pi} (wf : Wf Nm B Pp) (z : Str) : (getP Pp (z, z)).getD 0 = 0 := by
  rw [getP_none fun h => ?_]
  · rfl
  · obtain ⟨p, hp, e⟩ := List.mem_map.mp h
    have := (wf.rp p hp).2.2.1
    rw [show p.1 = (z, z) from e] at this
    exact this rfl
theorem getP_range {B : Br} {Pp : Pi} (wf : Wf Nm B Pp) (q : Str × Str) : 0 ≤ (getP Pp q).getD 0 ∧ (getP Pp q).getD 0 ≤ 60 := by
  cases e : getP Pp q with
  | none => exact ⟨by decide, by decide⟩
  | some w =>
    unfold getP at e
    rw [Option.map_eq_some_iff] at e
    obtain ⟨p, hp, e2⟩ := e
    have := (wf.rp p (List.mem_of_find?_eq_some hp)).2.2.2
    have e3 : p.2 = w := e2
    show 0 ≤ w ∧ w ≤ 60
    omega
/-- how much so many spills take from a pond -/
def aY (B : Br) (Pp : Pi) (y : Str → Int) (z : Str) : Int := val0 B z * y z - ((insOf Pp z).map fun p => p.2 * y p.1).sum
def nmAt (l : List Str) (i : Nat) : Str := l.getD i Str.empty
theorem nmAt_mem {l : List Str} {i : Nat} (h : i < l.length) : nmAt l i ∈ l := by
  unfold nmAt
  rw [List.getD_eq_getElem?_getD, List.getElem?_eq_getElem h]
  exact List.getElem_mem h
theorem nmAt_inj {l : List Str} (nd : l.Nodup) {i j : Nat} (hi : i < l.length) (hj : j < l.length) (e : nmAt l i = nmAt l j) : i = j := by
  unfold nmAt at e
  rw [List.getD_eq_getElem?_getD, List.getD_eq_getElem?_getD, List.getElem?_eq_getElem hi, List.getElem?_eq_getElem hj] at e
  exact (List.getElem_inj nd).mp e
theorem nmAt_of {l : List Str} {i : Nat} {z : Str} (h : l[i]? = some z) : nmAt l i = z := by
  unfold nmAt
  rw [List.getD_eq_getElem?_getD, h]; rfl
/-- a net's columns, and last what has to be taken -/
def Mt (B : Br) (Pp : Pi) (W : Str → Int) : Dt.Mx := fun c i => if c < (nms B).length then (if c = i then val0 B (nmAt (nms B) i) else -((getP Pp (nmAt (nms B) c, nmAt (nms B) i)).getD 0)) else W (nmAt (nms B) i) - (val0 B (nmAt (nms B) i) - 1)
theorem mt_ay {B : Br} {Pp : Pi} (wf : Wf Nm B Pp) (W y : Str → Int) {i : Nat} (hi : i < (nms B).length) : Dt.sm (nms B).length (fun k => y (nmAt (nms B) k) * Mt B Pp W k i) = aY B Pp y (nmAt (nms B) i) := by
  have e : ∀ k, k < (nms B).length → y (nmAt (nms B) k) * Mt B Pp W k i = (if k = i then val0 B (nmAt (nms B) i) * y (nmAt (nms B) i) else 0) - y (nmAt (nms B) k) * (getP Pp (nmAt (nms B) k, nmAt (nms B) i)).getD 0 := fun k hk => by
    unfold Mt
    rw [if_pos hk]
    by_cases c : k = i
    · rw [if_pos c, if_pos c, c, no_self wf, Int.mul_zero, Int.mul_comm]; omega
    · rw [if_neg c, if_neg c, Int.mul_neg]; omega
  rw [Dt.sm_congr e, Dt.sm_sub, Dt.sm_one (i := i) hi fun k _ ne => if_neg ne, if_pos rfl]
  unfold aY
  congr 1
  rw [← wsum_in wf]
  exact sm_list (fun x => y x * (getP Pp (x, nmAt (nms B) i)).getD 0) Str.empty (nms B)
theorem mt_last {B : Br} {Pp : Pi} {W : Str → Int} {i : Nat} : Mt B Pp W (nms B).length i = W (nmAt (nms B) i) - (val0 B (nmAt (nms B) i) - 1) := by
  unfold Mt
  rw [if_neg (by omega)]
theorem mt_mn {B : Br} {Pp : Pi} (good : Good B Pp) (W : Str → Int) : ∃ h : Nat → Int, Dt.Mn (nms B).length (Mt B Pp W) h := by
  obtain ⟨u, u0, hu⟩ := weights good
  have wf := good.wf
  refine ⟨fun i => u (nmAt (nms B) i), ⟨fun i j hi hj ne => ?_, fun i _ => u0 _, fun j hj => ?_⟩⟩
  · unfold Mt
    rw [if_pos hj, if_neg (fun e => ne e.symm)]
    have := getP_range wf (nmAt (nms B) j, nmAt (nms B) i)
    omega
  · have e : ∀ i, i < (nms B).length → u (nmAt (nms B) i) * Mt B Pp W j i = (if i = j then val0 B (nmAt (nms B) j) * u (nmAt (nms B) j) else 0) - u (nmAt (nms B) i) * (getP Pp (nmAt (nms B) j, nmAt (nms B) i)).getD 0 := fun i _ => by
      unfold Mt
      rw [if_pos hj]
      by_cases c : i = j
      · rw [if_pos c.symm, if_pos c, c, no_self wf, Int.mul_zero, Int.mul_comm]; omega
      · rw [if_neg (fun e => c e.symm), if_neg c, Int.mul_neg]; omega
    rw [Dt.sm_congr e, Dt.sm_sub, Dt.sm_one (i := j) hj fun k _ ne => if_neg ne, if_pos rfl]
    have q : Dt.sm (nms B).length (fun i => u (nmAt (nms B) i) * (getP Pp (nmAt (nms B) j, nmAt (nms B) i)).getD 0) = giveW Pp u (nmAt (nms B) j) := by
      rw [← wsum_out wf]
      exact sm_list (fun x => u x * (getP Pp (nmAt (nms B) j, x)).getD 0) Str.empty (nms B)
    rw [q]
    have := hu _ (nmAt_mem hj)
    omega
theorem mt_abs {B : Br} {Pp : Pi} (wf : Wf Nm B Pp) {W : Str → Int} {Y : Int} (h60 : 0 ≤ Y) (hW : ∀ z ∈ nms B, -Y ≤ W z ∧ W z ≤ Y) :
    (∀ a b, a < (nms B).length → b < (nms B).length → -60 ≤ Mt B Pp W a b ∧ Mt B Pp W a b ≤ 60) ∧ ∀ b, b < (nms B).length → -(Y + 60) ≤ Mt B Pp W (nms B).length b ∧ Mt B Pp W (nms B).length b ≤ Y + 60 := by
  have br : ∀ b, b < (nms B).length → 1 ≤ val0 B (nmAt (nms B) b) ∧ val0 B (nmAt (nms B) b) ≤ 60 := fun b hb => brim_pos wf (nmAt_mem hb)
  refine ⟨fun a b ha hb => ?_, fun b hb => ?_⟩
  · unfold Mt
    rw [if_pos ha]
    have h1 := br b hb
    have := getP_range wf (nmAt (nms B) a, nmAt (nms B) b)
    split <;> omega
  · rw [mt_last]
    have h1 := br b hb
    have := hW _ (nmAt_mem hb)
    omega
/-- so many spills more, and what it is to the water -/
theorem water_more {B : Br} {Pp : Pi} (good : Good B Pp) (Qp Qc Qd : Br) {z : Str} (mz : z ∈ nms B) : waterOf B Pp Qp Qd z = waterOf B Pp Qp Qc z - aY B Pp (fun x => val0 Qd x - val0 Qc x) z := by
  unfold waterOf aY
  have : ((insOf Pp z).map fun p => p.2 * (val0 Qd p.1 - val0 Qc p.1)).sum = ((insOf Pp z).map fun p => p.2 * val0 Qd p.1).sum - ((insOf Pp z).map fun p => p.2 * val0 Qc p.1).sum := by
    rw [← sum_sub2]
    congr 1
    exact List.map_congr_left fun p _ => Int.mul_sub _ _ _
  rw [this, Int.mul_sub]
  omega
end Nl
end
section
set_option maxHeartbeats 4000000
namespace Nl
open PySem PySem.Spec PyProof.Rows L2 Nt
theorem Good.nm {B : Br} {Pp : Pi} (g : Good B Pp) {z : Str} (mz : z ∈ nms B) : Nm z := by
  obtain ⟨u, hu, e⟩ := List.mem_map.mp mz
  rw [← (show u.1 = z from e)]; exact (g.wf.rb u hu).1
/-- a row of numbers -/
def rowV (n : Nat) (f : Nat → Int) : List V := (List.range (n + 1)).map fun c => V.int (f c)
theorem rowV_len (n : Nat) (f : Nat → Int) : (rowV n f).length = n + 1 := by
  unfold rowV
  rw [List.length_map, List.length_range]
theorem rowV_at {n c : Nat} (f : Nat → Int) (h : c ≤ n) : (rowV n f)[c]? = some (.int (f c)) := by
  unfold rowV
  rw [List.getElem?_map, List.getElem?_range (by omega)]; rfl
theorem rowV_last (n : Nat) (f : Nat → Int) : atI (rowV n f) (-1) = some (.int (f n)) := by
  have : rowV n f = (List.range n).map (fun c => V.int (f c)) ++ [.int (f n)] := by
    unfold rowV
    rw [List.range_succ, List.map_append]; rfl
  rw [this]
  exact atI_last _ _
theorem rowV_ext {n : Nat} {f : Nat → Int} {l : List V} (hl : l.length = n + 1) (h : ∀ c, c ≤ n → l[c]? = some (.int (f c))) : l = rowV n f := by
  apply List.ext_getElem?
  intro c
  rcases Nat.lt_or_ge n c with k | k
  · rw [List.getElem?_eq_none (by omega), List.getElem?_eq_none (by rw [rowV_len]; omega)]
  · rw [h c k, rowV_at f k]
section
variable {P : Program} {w : World} {K : PySem.W.Frag} {mg : Str → Option Value} {base : Heap}
theorem scWidth : FnScope ["self", "one", "other"] ["self", "one", "other"] (defScope mNet_width) := ⟨rfl, rfl, rfl, by decide +kernel, rfl, by decide +kernel, by decide +kernel⟩
def spWidth (C : Addr) : Sp := fun vs H Q _ => ∃ (n : Addr) (B : Br) (Pp : Pi) (x y : Str), vs = [.ref n, .str x, .str y] ∧ NetAt C H n B Pp ∧ Good B Pp ∧ x ∈ nms B ∧ y ∈ nms B ∧ ∀ H', Same H H' → Q (.int ((getP Pp (x, y)).getD 0)) H'
theorem ok_width {f C f1 : Addr} {fd fd1 : FuncData} (F : Fun K "width" "Net.width" mNet_width f fd) (T : TxN K mg C) (m1 : Meth K C "check_pond" f1) (G1 : FnOk P w K mg base CX0 4 f1 fd1 ["self", "thing"] (spChk C)) (b1 : Binds K fd1 ["self", "thing"] []) :
    FnOk P w K mg base CX0 5 f fd ["self", "one", "other"] (spWidth C) := by
  refine F.ok scWidth (fun vs H Q E h => ?_) (fun cdv A outer s H vs Q E hr h => ?_)
  · obtain ⟨n, B, Pp, x, y, rfl, _⟩ := h
    rfl
  · obtain ⟨n, B, Pp, x, y, rfl, N, good, mx, my, q⟩ := h
    obtain ⟨dx, d1, d2, hn, h1, h2, _⟩ := N.at_
    refine ⟨_, pss_cons (ps_expr (pe_meth (pv 0) T.cl m1 G1 hr b1 .nil pass0 (pa_cons (pv 1) pa_nil))) (pss_cons (ps_expr (pe_meth (pv 0) T.cl m1 G1 hr b1 .nil pass0 (pa_cons (pv 2) pa_nil)))
      (pss_one (ps_ret (pe_dget2 (hu_of hr) (pe_fld (pv 0) rfl) (pe_tup (pa_cons (pv 1) (pa_cons (pv 2) pa_nil))) pe_int ⟨rfl, rfl, rfl, rfl⟩)))), ?_⟩
    refine ⟨.ref n, rfl, n, dx, _, rfl, hn, no_attr, .str x, rfl, n, B, Pp, x, rfl, N, good.nm mx, mx, fun H1 s1 => ?_⟩
    refine ⟨.ref n, rfl, n, dx, _, rfl, s1 n _ hn, no_attr, .str y, rfl, n, B, Pp, y, rfl, N.same s1, good.nm my, my, fun H2 s2 => ?_⟩
    have s12 := s1.trans s2
    refine ⟨.ref n, rfl, n, C, dx, _, _, rfl, s12 n _ hn, T.cl, T.nW, nf_w d1 d2, d2.w, rfl, .inr ⟨_, .inl (s12 _ _ h2)⟩, .str x, rfl, .str y, rfl, (by show 2 ≤ sizeLine; decide), fun t nt => ?_⟩
    have s3 := same_new (o := .tup [.str x, .str y]) nt
    refine ⟨_, .inr ⟨_, Rl.pk (x, y), t, .inl (s3 _ _ (s12 _ _ h2)), rfl, upd_same, rfl⟩, ?_⟩
    have := q _ (s12.trans s3)
    rw [valV_pt]
    cases e : getP Pp (x, y) with
    | none => rw [e] at this; exact this
    | some v => rw [e] at this; exact this
theorem scBalRow : FnScope ["net", "waters", "name", "row", "other"] ["net", "waters", "name"] (defScope sBalRow) := ⟨rfl, rfl, rfl, by decide +kernel, rfl, by decide +kernel, by decide +kernel⟩
def spBalRow (C : Addr) : Sp := fun vs H Q _ => ∃ (n wa : Addr) (B : Br) (Pp : Pi) (Qw : Br) (z : Str) (i : Nat), vs = [.ref n, .ref wa, .str z] ∧ NetAt C H n B Pp ∧ Good B Pp ∧ H wa = some (.dK (bk Qw)) ∧ Full B Qw ∧ (nms B)[i]? = some z ∧
  ∀ H' p, Same H H' → H p = none → H' p = some (.lst (rowV (nms B).length fun c => Mt B Pp (val0 Qw) c i)) → Q (.ref p) H'
theorem eqV_str (x y : Str) : eqV (.str x) (.str y) = decide (x = y) := by
  show (x == y) = decide (x = y)
  by_cases h : x = y
  · rw [decide_eq_true h, beq_iff_eq.mpr h]
  · rw [decide_eq_false h, beq_eq_false_iff_ne.mpr h]
theorem ok_balRow {f C f1 f2 f3 : Addr} {fd fd1 fd2 fd3 : FuncData} (F : Fun K "balance_row" "balance_row" sBalRow f fd) (T : TxN K mg C)
    (m1 : Meth K C "width" f1) (G1 : FnOk P w K mg base CX0 5 f1 fd1 ["self", "one", "other"] (spWidth C)) (b1 : Binds K fd1 ["self", "one", "other"] [])
    (m2 : Meth K C "ponds" f2) (G2 : FnOk P w K mg base CX0 1 f2 fd2 ["self"] (spPonds C)) (b2 : Binds K fd2 ["self"] [])
    (m3 : Meth K C "brim" f3) (G3 : FnOk P w K mg base CX0 5 f3 fd3 ["self", "name"] (spBrim C)) (b3 : Binds K fd3 ["self", "name"] []) :
    FnOk P w K mg base CX0 6 f fd ["net", "waters", "name"] (spBalRow C) := by
  refine F.ok scBalRow (fun vs H Q E h => ?_) (fun cdv A outer s H vs Q E hr h => ?_)
  · obtain ⟨n, wa, B, Pp, Qw, z, i, rfl, _⟩ := h
    rfl
  · obtain ⟨n, wa, B, Pp, Qw, z, i, rfl, N, good, hw, fw, hz, q⟩ := h
    have wf := good.wf
    have mz : z ∈ nms B := List.mem_of_getElem? hz
    have hi : i < (nms B).length := (List.getElem?_eq_some_iff.mp hz).1
    have lN : (nms B).length ≤ 12 := by rw [nms_len]; exact wf.lb
    have hr1 := hr.mono (show 1 ≤ 5 by decide)
    refine ⟨_, pss_cons (ps_setLc (i := 3) (own := [("other", 4)]) (g := gName 4) (tt := tYes) rfl scBalRow.nd rfl rfl (by first | exact rfl | exact sw_true rfl rfl rfl (by decide +kernel)) (pi_list (pe_meth0 (pv 0) T.cl m2 G2 hr1 b2 .nil pass0))
        (blkOk_by (N := ["net", "waters", "name", "row", "other"]) (sc := defScope sBalRow) (by decide +kernel)) (fun _ _ _ _ _ => pg_name (i := 4) scBalRow.nd rfl (Or.inl rfl)) (fun _ _ _ _ _ => pts_nil)
        (fun _ _ _ _ _ => pe_un un_neg (pe_meth (pv 0) T.cl m1 G1 hr b1 .nil pass0 (pa_cons (pv 4) (pa_cons (pv 2) pa_nil)))))
      (pss_cons (ps_asg (pe_meth (pv 0) T.cl m3 G3 hr b3 .nil pass0 (pa_cons (pv 2) pa_nil)) (pg_sub (pv 3) (pe_bm PySem.F.plainAttrs_list PySem.F.slot_list_index PySem.F.type_list_index mt_index (pe_meth0 (pv 0) T.cl m2 G2 hr1 b2 .nil pass0) (pa_cons (pv 2) pa_nil)) set_list))
      (pss_cons (ps_expr (pe_bm PySem.F.plainAttrs_list PySem.F.slot_list_append PySem.F.type_list_append mt_append (pv 3) (pa_cons (pe_op op_sub (pe_dget (hu_of hr) (pv 1) (pv 2) (fun _ _ => rfl)) (pe_op op_sub (pe_meth (pv 0) T.cl m3 G3 hr b3 .nil pass0 (pa_cons (pv 2) pa_nil)) pe_int)) pa_nil)))
      (pss_one (ps_ret (pv 3))))), ?_⟩
    obtain ⟨dx, d1, d2, hn, _, _⟩ := N.at_
    obtain ⟨bz, gz⟩ := getB_some mz
    have eb : val0 B z = bz := by unfold val0; rw [gz]; rfl
    refine ⟨.ref n, rfl, n, dx, _, rfl, hn, no_attr, n, B, Pp, rfl, N, fun e ne => ?_⟩
    have s1 := same_new (o := .lst ((nms B).map V.str)) ne
    refine ⟨e, rfl, ⟨_, SqL.of upd_same⟩, fun D nD => ?_⟩
    refine lc_it (walk_list (K := K) (a := e) (xs := (nms B).map V.str)) (fun j H2 => H2 D = some (.lst (((nms B).take j).map fun x => V.int (-((getP Pp (x, z)).getD 0)))) ∧ Same (upd H e (.lst ((nms B).map V.str))) H2) ⟨upd_same, same_new nD⟩ (fun j H2 _ h => SqL.of (h.2 e _ upd_same)) ?_ ?_
    · rintro j v H2 H2' hj ⟨hD, sm⟩ ⟨rfl, hv⟩
      rw [List.getElem?_map] at hv
      cases hy : (nms B)[j]? with
      | none => rw [hy] at hv; cases hv
      | some x =>
        rw [hy] at hv
        have hx' : V.str x = v := Option.some.inj hv
        subst hx'
        have sA := s1.trans sm
        refine ⟨rfl, .ref n, rfl, n, dx, _, rfl, sA n _ hn, no_attr, .str x, rfl, .str z, rfl, n, B, Pp, x, z, rfl, N.same sA, good, List.mem_of_getElem? hy, mz, fun H3 s3 => ?_⟩
        refine ⟨_, rfl, _, s3 D _ hD, ?_, ?_, ?_⟩
        · rw [List.length_map, List.length_take]; exact small1000 (by omega)
        · rw [upd_same, List.take_add_one, hy, List.map_append]; rfl
        · exact fun c o ec => by
            have nb : c ≠ D := ne_of_none ec nD
            rw [upd_ne nb]; exact s3 c o (sm c o ec)
    · rintro H2 ⟨hD, sm⟩
      rw [List.length_map, List.take_length] at hD
      have sA := s1.trans sm
      have nDH : H D = none := s1.free nD
      refine ⟨.ref n, rfl, n, dx, _, rfl, sA n _ hn, no_attr, .str z, rfl, n, B, Pp, z, bz, rfl, N.same sA, good.nm mz, gz, fun H3 s3 => ?_⟩
      have s13 := sA.trans s3
      refine ⟨.ref D, rfl, .ref n, rfl, n, dx, _, rfl, s13 n _ hn, no_attr, n, B, Pp, rfl, N.same s13, fun e2 ne2 => ?_⟩
      have s4 := same_new (o := .lst ((nms B).map V.str)) ne2
      refine ⟨.inl ⟨rfl, _, SqL.of upd_same⟩, .str z, rfl, e2, (nms B).map V.str, .str z, i, .str z, rfl, rfl, SqL.of upd_same, rfl, flat_strs _, by rw [List.getElem?_map, hz]; rfl, by rw [eqV_str, decide_eq_true rfl], fun m z' hm hz' => ?_, ?_⟩
      · rw [List.getElem?_map] at hz'
        cases hy : (nms B)[m]? with
        | none => rw [hy] at hz'; cases hz'
        | some x =>
          rw [hy] at hz'
          have hx' : V.str x = z' := Option.some.inj hz'
          subst hx'
          rw [eqV_str]
          refine decide_eq_false fun e => ?_
          subst e
          exact take_nd wf.nb hz (by
            have : ((nms B).take i)[m]? = some x := by rw [List.getElem?_take_of_lt hm]; exact hy
            exact List.mem_of_getElem? this)
      have hD4 := s4 D _ (s3 D _ hD)
      refine ⟨D, _, (i : Int), i, rfl, rfl, hD4, ?_, ?_⟩
      · rw [List.length_map]
        unfold ixN
        rw [if_pos (by omega), if_pos (by omega)]; simp
      have s14 := s13.trans s4
      have nnD : n ≠ D := ne_of_none hn nDH
      have nwD : wa ≠ D := ne_of_none hw nDH
      have k5 : ∀ {c : Addr} {o : HO} (x : HO), H c = some o → (upd (upd H3 e2 (.lst ((nms B).map V.str))) D x) c = some o := fun {c o} x ec => by
        rw [upd_ne (ne_of_none ec nDH)]; exact s14 c o ec
      have sk : ∀ x : HO, Same H (upd (upd H3 e2 (.lst ((nms B).map V.str))) D x) := fun x c o ec => k5 x ec
      refine ⟨.ref D, rfl, .inl ⟨rfl, _, SqL.of upd_same⟩, ?_⟩
      refine ⟨.ref wa, rfl, .str z, rfl, wa, .int (val0 Qw z), rfl, .inl ⟨_, Sum.inr z, .inl (k5 _ hw), rfl, by rw [valV_bk, fw.get mz]; rfl⟩, .ref n, rfl, n, dx, _, rfl, k5 _ hn, no_attr, .str z, rfl, n, B, Pp, z, bz, rfl, N.same (sk _), good.nm mz, gz, fun H6 s6 => ?_⟩
      refine ⟨_, _, rfl, rfl, _, _, rfl, rfl, D, _, _, rfl, rfl, s6 D _ upd_same, ?_, ?_⟩
      · rw [List.length_set, List.length_map]; exact small1000 (by omega)
      refine ⟨.ref D, rfl, q _ D (fun c o ec => ?_) nDH ?_⟩
      · rw [upd_ne (ne_of_none ec nDH)]; exact s6 c o (k5 _ ec)
      · rw [upd_same]
        congr 2
        refine rowV_ext ?_ fun c hc => ?_
        · rw [List.length_append, List.length_set, List.length_map]; rfl
        · rcases Nat.lt_or_ge c (nms B).length with lt | ge
          · rw [List.getElem?_append_left (by rw [List.length_set, List.length_map]; exact lt), List.getElem?_set]
            unfold Mt
            rw [if_pos lt]
            by_cases ci : i = c
            · subst ci
              rw [if_pos rfl, if_pos (by rw [List.length_map]; exact hi), if_pos rfl, nmAt_of hz, eb]
            · rw [if_neg ci, if_neg (fun e => ci e.symm), List.getElem?_map, List.getElem?_eq_getElem lt, nmAt_of hz, nmAt_of (List.getElem?_eq_getElem lt)]; rfl
          · have ec : c = (nms B).length := by omega
            subst ec
            rw [List.getElem?_append_right (by rw [List.length_set, List.length_map]; exact Nat.le_refl _), List.length_set, List.length_map, Nat.sub_self, mt_last, nmAt_of hz, eb]
            rfl
end
end Nl
end
section
set_option maxHeartbeats 4000000
namespace Nl
open PySem PySem.Spec PyProof.Rows L2 Nt
/-- rows of numbers stand there -/
structure RowsAt (H : Hp) (rs : List Addr) (n : Nat) (R : Nat → Nat → Int) : Prop where
  len : rs.length = n
  at_ : ∀ i a, rs[i]? = some a → H a = some (.lst (rowV n (R i)))
theorem RowsAt.same {H H' : Hp} {rs : List Addr} {n : Nat} {R : Nat → Nat → Int} (h : RowsAt H rs n R) (s : Same H H') : RowsAt H' rs n R := ⟨h.len, fun i a e => s _ _ (h.at_ i a e)⟩
theorem refs_at {rs : List Addr} {i : Nat} {v : V} (h : (rs.map V.ref)[i]? = some v) : ∃ a, rs[i]? = some a ∧ v = .ref a := by
  rw [List.getElem?_map] at h
  cases e : rs[i]? with
  | none => rw [e] at h; cases h
  | some a => rw [e] at h; exact ⟨a, rfl, (Option.some.inj h).symm⟩
section
variable {P : Program} {w : World} {K : PySem.W.Frag} {mg : Str → Option Value} {base : Heap}
theorem scSolved : FnScope ["rows", "at", "bottom", "pivot", "solved", "row", "entry", "part"] ["rows", "at", "bottom"] (defScope sSolved) := ⟨rfl, rfl, rfl, by decide +kernel, rfl, by decide +kernel, by decide +kernel⟩
def spSolved : Sp := fun vs H Q _ => ∃ (ra : Addr) (rs : List Addr) (n t : Nat) (d : Int) (R q : Nat → Nat → Int), vs = [.ref ra, .int (t : Nat), .int d] ∧ H ra = some (.lst (rs.map V.ref)) ∧ RowsAt H rs n R ∧ n ≤ 12 ∧ t < n ∧ 0 < d ∧ d.natAbs < 2 ^ 2200 ∧
  (∀ i c, i < n → c ≤ n → (R i c).natAbs < 2 ^ 2200) ∧ (∀ i c, i < n → c ≤ n → R i c * R t t - R i t * R t c = d * q i c) ∧
  ∀ H' p rs', Same H H' → H p = none → H' p = some (.lst (rs'.map V.ref)) → RowsAt H' rs' n (fun i c => if i = t then R t c else q i c) → Q (.ref p) H'
theorem ok_solved {f : Addr} {fd : FuncData} {k : Nat} (F : Fun K "solved_for" "solved_for" sSolved f fd) (mz : mg "zip" = none) : FnOk P w K mg base CX0 (k + 1) f fd ["rows", "at", "bottom"] spSolved := by
  refine F.ok scSolved (fun vs H Q E h => ?_) (fun cdv A outer s H vs Q E hr h => ?_)
  · obtain ⟨ra, rs, n, t, d, R, q, rfl, _⟩ := h
    rfl
  · obtain ⟨ra, rs, n, t, d, R, qq, rfl, hra, RA, hn, ht, d0, dB, RB, ev, q⟩ := h
    have ext : ∃ pv, rs[t]? = some pv := ⟨rs[t]'(by rw [RA.len]; exact ht), List.getElem?_eq_getElem _⟩
    obtain ⟨pv, hpv⟩ := ext
    have hP := RA.at_ t pv hpv
    refine ⟨_, pss_cons (ps_set (i := 3) scSolved.nd rfl (by first | exact .inl rfl | exact .inr rfl) (pe_ix ix_list (L2.pv 0) (L2.pv 1) (fun _ _ => rfl)))
      (pss_cons (ps_setLc (i := 4) (own := [("row", 5)]) (g := gName 5) (tt := tYes)
          (te := tLc (iZip K (tCons (tVar 5) (tCons (tVar 3) tNil))) (gTup K 2 (gCons (gName 6) (gCons (gName 7) gNil))) tYes
            (tOp (rI CDivW fun i j => .int (i / j)) (tOp (rI0 fun i j => .int (i - j)) (tOp (rI CMulW fun i j => .int (i * j)) (tVar 6) (tOp (rIxL K) (tVar 3) (tVar 1))) (tOp (rI CMulW fun i j => .int (i * j)) (tOp (rIxL K) (tVar 5) (tVar 1)) (tVar 7))) (tVar 2)) [6, 7])
          rfl scSolved.nd rfl rfl (by first | exact rfl | exact sw_true rfl rfl rfl (by decide +kernel)) (pi_list (L2.pv 0))
          (blkOk_by (N := ["rows", "at", "bottom", "pivot", "solved", "row", "entry", "part"]) (sc := defScope sSolved) (by decide +kernel)) (fun _ _ _ _ _ => pg_name (i := 5) scSolved.nd rfl (Or.inr rfl)) (fun _ _ _ _ _ => pts_nil)
          (fun _ _ _ _ _ => pe_lc (own := [("entry", 6), ("part", 7)]) (g := gTup K 2 (gCons (gName 6) (gCons (gName 7) gNil))) (tt := tYes)
            (te := tOp (rI CDivW fun i j => .int (i / j)) (tOp (rI0 fun i j => .int (i - j)) (tOp (rI CMulW fun i j => .int (i * j)) (tVar 6) (tOp (rIxL K) (tVar 3) (tVar 1))) (tOp (rI CMulW fun i j => .int (i * j)) (tOp (rIxL K) (tVar 5) (tVar 1)) (tVar 7))) (tVar 2))
            rfl scSolved.nd (pi_zip (by rfl) mz (pa_cons (L2.pv 5) (pa_cons (L2.pv 3) pa_nil)))
            (blkOk_by (N := ["rows", "at", "bottom", "pivot", "solved", "row", "entry", "part"]) (sc := { kind := .function, names := [(".0", .local), ("row", .cell), ("zip", .globalImplicit), ("at", .cell), ("bottom", .cell), ("pivot", .cell)], isGenerator := false, isCoroutine := false }) (by decide +kernel))
            (fun _ _ _ _ _ => pg_tup rfl (pgs_cons (pg_name (i := 6) scSolved.nd rfl (Or.inl rfl)) (pgs_cons (pg_name (i := 7) scSolved.nd rfl (Or.inl rfl)) pgs_nil)))
            (fun _ _ _ _ _ => pts_nil)
            (fun _ _ _ _ _ => pe_op op_fdivW (pe_op op_sub (pe_op op_mulW (L2.pv 6) (pe_ix ix_list (L2.pv 3) (L2.pv 1) (fun _ _ => rfl))) (pe_op op_mulW (pe_ix ix_list (L2.pv 5) (L2.pv 1) (fun _ _ => rfl)) (L2.pv 7))) (L2.pv 2))))
      (pss_cons (ps_asg (L2.pv 3) (pg_sub (L2.pv 4) (L2.pv 1) set_list))
      (pss_one (ps_ret (L2.pv 4))))), ?_⟩
    refine ⟨.ref ra, rfl, .int (t : Nat), rfl, ra, _, _, .ref pv, rfl, rfl, SqL.of hra, atI_nat (by rw [List.getElem?_map, hpv]; rfl), ?_⟩
    refine ⟨.ref ra, rfl, ra, rfl, ⟨_, SqL.of hra⟩, fun D nD => ?_⟩
    refine lc_it (walk_list (K := K) (a := ra) (xs := rs.map V.ref)) (fun i H2 => ∃ ls : List Addr, H2 D = some (.lst (ls.map V.ref)) ∧ ls.length = i ∧ (∀ j a, ls[j]? = some a → H2 a = some (.lst (rowV n (qq j))) ∧ a ≠ D) ∧ Same H H2) ⟨[], upd_same, rfl, fun j a e => by simp at e, same_new nD⟩ (fun i H2 _ ⟨_, _, _, _, h⟩ => SqL.of (h ra _ hra)) ?_ ?_
    · rintro i v H2 H2' hi ⟨ls, hD, hl, hls, sm⟩ ⟨rfl, hv⟩
      rw [List.length_map, RA.len] at hi
      obtain ⟨a, ha, rfl⟩ := refs_at hv
      have hA := sm a _ (RA.at_ i a ha)
      have hP2 := sm pv _ hP
      refine ⟨rfl, .ref a, rfl, .ref pv, rfl, a, pv, rowV n (R i), rowV n (R t), rfl, SqL.of hA, SqL.of hP2, fun D2 nD2 => ?_⟩
      refine lc_it (walk_zip (K := K) (a := a) (b := pv) (xs := rowV n (R i)) (ys := rowV n (R t)) (n := n + 1) (by rw [rowV_len, rowV_len]; omega)) (fun c H3 => H3 D2 = some (.lst ((List.range c).map fun c => V.int (qq i c))) ∧ Same H2' H3) ⟨upd_same, same_new nD2⟩ (fun c H3 _ h => ⟨SqL.of (h.2 a _ hA), SqL.of (h.2 pv _ hP2)⟩) ?_ ?_
      · rintro c v H3 H3' hc ⟨hD2, sm3⟩ ⟨T, x, y, rfl, nT, rfl, hx, hy⟩
        have hx : (rowV n (R i))[c]? = some x := hx
        have hy : (rowV n (R t))[c]? = some y := hy
        rw [rowV_at _ (by omega)] at hx hy
        cases Option.some.inj hx
        cases Option.some.inj hy
        have s4 := same_new (o := .tup [.int (R i c), .int (R t c)]) nT
        have s34 := sm3.trans s4
        have e1 : (R i c * R t t - R i t * R t c) / d = qq i c := by
          rw [ev i c hi (by omega)]
          exact Int.mul_ediv_cancel_left _ (by omega)
        refine ⟨T, [.int (R i c), .int (R t c)], rfl, SqT.of upd_same, rfl, .int (R i c), [.int (R t c)], rfl, .int (R t c), [], rfl, rfl, rfl, ?_⟩
        refine ⟨.int (R i c), rfl, .ref pv, rfl, .int (t : Nat), rfl, pv, _, _, .int (R t t), rfl, rfl, SqL.of (s34 pv _ hP2), atI_nat (rowV_at _ (by omega)), _, _, rfl, rfl, wide_mul (RB i c hi (by omega)) (RB t t ht (by omega)) (by decide) (by decide) (by decide), ?_⟩
        refine ⟨.ref a, rfl, .int (t : Nat), rfl, a, _, _, .int (R i t), rfl, rfl, SqL.of (s34 a _ hA), atI_nat (rowV_at _ (by omega)), .int (R t c), rfl, _, _, rfl, rfl, wide_mul (RB i t hi (by omega)) (RB t c ht (by omega)) (by decide) (by decide) (by decide), ?_⟩
        refine ⟨_, _, rfl, rfl, .int d, rfl, _, _, rfl, rfl, wide_div d0 dB (by decide) (by decide), ?_⟩
        have hD4 := s4 D2 _ hD2
        refine ⟨_, hD4, by rw [List.length_map, List.length_range]; exact small1000 (by omega), ?_, ?_⟩
        · rw [upd_same, List.range_succ, List.map_append]
          show some (HO.lst (_ ++ [V.int ((R i c * R t t - R i t * R t c) / d)])) = _
          rw [e1]; rfl
        · exact fun b o eb => by
            have nb : b ≠ D2 := ne_of_none eb nD2
            rw [upd_ne nb]; exact s34 b o eb
      · rintro H3 ⟨hD2, sm3⟩
        have hD3 := sm3 D _ hD
        have n2 : D2 ≠ D := fun e => by subst e; rw [hD] at nD2; cases nD2
        refine ⟨_, hD3, by rw [List.length_map]; exact small1000 (by omega), ls ++ [D2], ?_, ?_, fun j b e => ?_, ?_⟩
        · rw [upd_same, List.map_append]; rfl
        · rw [List.length_append, hl]; rfl
        · rcases Nat.lt_or_ge j ls.length with lt | ge
          · rw [List.getElem?_append_left lt] at e
            obtain ⟨e1, e2⟩ := hls j b e
            exact ⟨by rw [upd_ne e2]; exact sm3 b _ e1, e2⟩
          · rw [List.getElem?_append_right ge] at e
            have ej : j - ls.length = 0 := by
              cases hh : j - ls.length with
              | zero => rfl
              | succ k => rw [hh] at e; simp at e
            rw [ej] at e
            have eb : D2 = b := Option.some.inj e
            subst eb
            have : j = i := by omega
            subst this
            exact ⟨by rw [upd_ne n2]; exact hD2, n2⟩
        · exact fun b o eb => by
            have nb : b ≠ D := ne_of_none eb nD
            rw [upd_ne nb]; exact sm3 b o (sm b o eb)
    · rintro H2 ⟨ls, hD, hl, hls, sm⟩
      rw [List.length_map, RA.len] at hl
      refine ⟨.ref pv, rfl, .ref D, rfl, .int (t : Nat), rfl, D, _, (t : Int), t, rfl, rfl, hD, ?_, ?_⟩
      · rw [List.length_map]
        unfold ixN
        rw [if_pos (by omega), if_pos (by omega)]; simp
      refine ⟨.ref D, rfl, q _ D (ls.set t pv) (fun b o eb => ?_) nD ?_ ⟨?_, fun j b e => ?_⟩⟩
      · rw [upd_ne (ne_of_none eb nD)]; exact sm b o eb
      · rw [upd_same, List.map_set]
      · rw [List.length_set]; exact hl
      · have pD : pv ≠ D := ne_of_none hP nD
        rw [List.getElem?_set] at e
        by_cases c : t = j
        · subst c
          rw [if_pos rfl, if_pos (by omega)] at e
          have eb : pv = b := Option.some.inj e
          subst eb
          rw [upd_ne pD, sm pv _ hP]
          simp
        · rw [if_neg c] at e
          obtain ⟨e1, e2⟩ := hls j b e
          rw [upd_ne e2, e1]
          simp [Ne.symm c]
end
end Nl
end
section
set_option maxHeartbeats 4000000
namespace Nl
open PySem PySem.Spec PyProof.Rows L2 Nt
/-- places -/
abbrev natsV (l : List Nat) : List V := l.map fun k => V.int (k : Nat)
theorem inV_nats (y : Nat) (l : List Nat) : inV (.int (y : Nat)) (natsV l) = decide (y ∈ l) := by
  unfold inV
  induction l with
  | nil => rfl
  | cons x r ih =>
    rw [natsV, List.map_cons, List.any_cons]
    rw [show List.any (List.map (fun k : Nat => V.int (k : Nat)) r) (fun z => eqV z (V.int (y : Nat))) = decide (y ∈ r) from ih]
    show (((x : Nat) : Int) == ((y : Nat) : Int) || decide (y ∈ r)) = decide (y ∈ x :: r)
    by_cases h : x = y
    · rw [show (((x : Nat) : Int) == ((y : Nat) : Int)) = true from beq_iff_eq.mpr (by rw [h]), decide_eq_true (show y ∈ x :: r by rw [h]; exact List.mem_cons_self)]; rfl
    · rw [show (((x : Nat) : Int) == ((y : Nat) : Int)) = false from beq_eq_false_iff_ne.mpr (by omega)]
      by_cases m : y ∈ r
      · rw [decide_eq_true m, decide_eq_true (List.mem_cons_of_mem _ m)]; rfl
      · rw [decide_eq_false m, decide_eq_false (fun z => by
          rcases List.mem_cons.mp z with e | e
          · exact h e.symm
          · exact m e)]; rfl
theorem natsV_append (a b : List Nat) : natsV (a ++ b) = natsV a ++ natsV b := List.map_append
theorem flat_nats (l : List Nat) : (natsV l).all flatV = true := by
  rw [List.all_map]; exact List.all_eq_true.mpr fun _ _ => rfl
def stillL (n : Nat) (sp : List Nat) (R : Nat → Nat → Int) : List Nat := (List.range n).filter fun i => !decide (i ∈ sp) && decide (R i n > 0)
theorem stillL_mem {n : Nat} {sp : List Nat} {R : Nat → Nat → Int} {i : Nat} : i ∈ stillL n sp R ↔ i < n ∧ i ∉ sp ∧ R i n > 0 := by
  unfold stillL
  rw [List.mem_filter, List.mem_range, Bool.and_eq_true, decide_eq_true_eq]
  simp
section
variable {P : Program} {w : World} {K : PySem.W.Frag} {mg : Str → Option Value} {base : Heap}
theorem scStill : FnScope ["rows", "spilt", "at"] ["rows", "spilt"] (defScope sStill) := ⟨rfl, rfl, rfl, by decide +kernel, rfl, by decide +kernel, by decide +kernel⟩
def spStill : Sp := fun vs H Q _ => ∃ (ra sa : Addr) (rs : List Addr) (n : Nat) (sp : List Nat) (R : Nat → Nat → Int), vs = [.ref ra, .ref sa] ∧ H ra = some (.lst (rs.map V.ref)) ∧ RowsAt H rs n R ∧ n ≤ 12 ∧ H sa = some (.lst (natsV sp)) ∧
  ∀ H' p, Same H H' → H p = none → H' p = some (.lst (natsV (stillL n sp R))) → Q (.ref p) H'
theorem ok_still {f : Addr} {fd : FuncData} {k : Nat} (F : Fun K "still_over" "still_over" sStill f fd) (mr : mg "range" = none) (ml : mg "len" = none) : FnOk P w K mg base CX0 (k + 1) f fd ["rows", "spilt"] spStill := by
  refine F.ok scStill (fun vs H Q E h => ?_) (fun cdv A outer s H vs Q E hr h => ?_)
  · obtain ⟨ra, sa, rs, n, sp, R, rfl, _⟩ := h
    rfl
  · obtain ⟨ra, sa, rs, n, sp, R, rfl, hra, RA, hn, hsa, q⟩ := h
    refine ⟨_, pss_one (ps_ret (pe_lc (own := [("at", 2)]) (g := gName 2)
      (tt := tAnd (tTest (tOp (rIn K true) (tVar 2) (tVar 1))) (tTest (tOp (rI0 fun i j => .bl (decide (i > j))) (tOp (rIxL K) (tOp (rIxL K) (tVar 0) (tVar 2)) (tUn (rU fun i => .int (-i)) (tC (.int 1)))) (tC (.int 0))))) (te := tVar 2)
      rfl scStill.nd (pi_range1 (by rfl) mr (pa_cons (pe_callB call_len_seq (by rfl) ml PySem.boot_len (pa_cons (pv 0) pa_nil)) pa_nil))
      (blkOk_by (N := ["rows", "spilt", "at"]) (sc := defScope sStill) (by decide +kernel)) (fun _ _ _ _ _ => pg_name (i := 2) scStill.nd rfl (Or.inl rfl))
      (fun _ _ _ _ _ => pts_one (PW.pt (pw_and (pt_cmpR op_notIn_seq (pv 2) (pv 1) (by rfl)) (pw_and1 (pt_cmpR op_gt (pe_ix ix_list (pe_ix ix_list (pv 0) (pv 2) (fun _ _ => rfl)) (pe_un un_neg pe_int) (fun _ _ => rfl)) pe_int (nomark _))))))
      (fun _ _ _ _ _ => pv 2))), ?_⟩
    refine ⟨.ref ra, rfl, ra, _, rfl, .inl (SqL.of hra), _, rfl, ?_, ?_, fun D nD => ?_⟩
    · rw [List.length_map, RA.len]; omega
    · rw [List.length_map, RA.len]; omega
    have en : (((rs.map V.ref).length : Nat) : Int).toNat = n := by rw [List.length_map, RA.len]; omega
    refine lc_it walk_range (fun i H2 => H2 D = some (.lst (natsV ((List.range i).filter fun i => !decide (i ∈ sp) && decide (R i n > 0)))) ∧ Same H H2) ⟨upd_same, same_new nD⟩ (fun _ _ _ _ => trivial) ?_ ?_
    · rintro i v H2 H2' hi ⟨hD, sm⟩ ⟨rfl, rfl⟩
      rw [en] at hi
      obtain ⟨a, ha⟩ : ∃ a, rs[i]? = some a := ⟨rs[i]'(by rw [RA.len]; exact hi), List.getElem?_eq_getElem _⟩
      have hA := sm a _ (RA.at_ i a ha)
      have e0 : (0 : Int) + (i : Nat) = (i : Nat) := by omega
      have tk : (List.range (i + 1)).filter (fun i => !decide (i ∈ sp) && decide (R i n > 0)) = (List.range i).filter (fun i => !decide (i ∈ sp) && decide (R i n > 0)) ++ if (!decide (i ∈ sp) && decide (R i n > 0)) = true then [i] else [] := by
        rw [List.range_succ, List.filter_append, List.filter_cons]; rfl
      refine ⟨rfl, .int (0 + (i : Nat)), rfl, .ref sa, rfl, sa, natsV sp, rfl, .inl (SqL.of (sm sa _ hsa)), rfl, flat_nats _, _, rfl, ?_⟩
      rw [e0, inV_nats]
      show (if (!decide (i ∈ sp)) = true then _ else _)
      refine ite2 (fun c => ?_) (fun c => ?_)
      · refine ⟨.ref ra, rfl, .int (0 + (i : Nat)), rfl, ra, _, _, .ref a, rfl, rfl, SqL.of (sm ra _ hra), (by rw [e0]; exact atI_nat (by rw [List.getElem?_map, ha]; rfl)), 1, rfl, a, _, _, .int (R i n), rfl, rfl, SqL.of hA, rowV_last n (R i), _, _, rfl, rfl, _, rfl, ?_⟩
        refine ite2 (fun c2 => ?_) (fun c2 => ?_)
        · refine ⟨.int (0 + (i : Nat)), rfl, _, hD, ?_, ?_, ?_⟩
          · rw [List.length_map]
            refine small1000 (Nat.le_trans (List.length_filter_le _ _) ?_)
            rw [List.length_range]; omega
          · rw [upd_same, tk, if_pos (by rw [c, c2]; rfl), e0, natsV_append]; rfl
          · exact fun b o eb => by
              have nb : b ≠ D := ne_of_none eb nD
              rw [upd_ne nb]; exact sm b o eb
        · refine ⟨?_, sm⟩
          rw [tk, if_neg (by rw [c]; exact c2), List.append_nil]; exact hD
      · refine iteF ⟨?_, sm⟩
        rw [tk, if_neg (by
          have : (!decide (i ∈ sp)) = false := by simpa using c
          rw [this]; simp), List.append_nil]; exact hD
    · rintro H2 ⟨hD, sm⟩
      rw [en] at hD
      exact q H2 D sm nD hD
end
end Nl
end
section
set_option maxHeartbeats 2000000
namespace Rl
open PySem PySem.Spec PyProof.Rows L2
section
variable {X : Cx}
/-- name = {k: v for ..} on one line, the name a local -/
theorem ps_setDc {T : HO} {i : Nat} {y : Str} {py : Pos} {kx vx tg iter : Expr} {ifs : List Expr} {scope : Scope} {own : List (Str × Nat)} {pos spos : Pos} {wi : TI} {g : TG} {tt : TT} {tk tv : TE} {j : Nat} (hT : T = .dT [] ∨ T = .dK []) (hr : Room j X.A) (hc : X.calm = true) (hN : X.N.Nodup) (hy : X.N[i]? = some y) (hyl : X.env.scope.names.lookup y = some .local)
    (hsw : swapsWith (.DictComp kx vx [⟨tg, iter, ifs, 0⟩] scope pos) (some (.Name y py)) spos.line X.env = pure true) (hi : PI X tg iter wi) (ok : BlkOk X.N X.env.scope scope own)
    (hg : ∀ (s : Shared) (H : Hp) (C : Addr) (cl : List (Str × Addr)) (fp : List Addr), PG (X.blk s H scope (compEnvC scope cl C X.env) fp) tg g)
    (ht : ∀ (s : Shared) (H : Hp) (C : Addr) (cl : List (Str × Addr)) (fp : List Addr), PTs (X.blk s H scope (compEnvC scope cl C X.env) fp) ifs tt)
    (hk : ∀ (s : Shared) (H : Hp) (C : Addr) (cl : List (Str × Addr)) (fp : List Addr), PE (X.blk s H scope (compEnvC scope cl C X.env) fp) kx tk)
    (he : ∀ (s : Shared) (H : Hp) (C : Addr) (cl : List (Str × Addr)) (fp : List Addr), PE (X.blk s H scope (compEnvC scope cl C X.env) fp) vx tv) (hs : ∀ x, foldedSetIterable iter X.env x = pure x := by intro _; rfl) :
    PS X (.Assign [.Name y py] (.DictComp kx vx [⟨tg, iter, ifs, 0⟩] scope pos) spos) (tAsg (tGc (fun _ => T) wi g tt (tbD tk tv) (own.map (·.2))) (gName i)) := by
  refine ⟨fun pins s σ H D I h => ?_⟩
  rw [exec_Assign_Name_used _ _ _ _ hsw]
  refine wpAny_bind (wpAny_standAt (wpAny_bind ?_))
  show wpAny _ X.A (do let _ ← comprehension (.DictComp kx vx [⟨tg, iter, ifs, 0⟩] scope pos) scope X.env (firstIterPos [⟨tg, iter, ifs, 0⟩] pos) newDict false (eval iter X.env) (some (assign (.Name y py) X.env))) _ _ s
  have h : tGc (fun _ => T) wi g tt (tbD tk tv) (own.map (·.2)) σ H (fun x H1 => gName i x σ H1 D.nx) := h
  refine wpAny_bind (thn (gc_core (Qf := fun _ s' => SP X pins D .next s') (kindD X.prog X.w kx vx tg iter ifs scope pos) (fun {_ _ _ s1} I1 => ?_) hc hN I hi ok hg ht ?_ hs h fun L C s' m H' I' q hn f => ?_) fun _ s' hq => wpAny_pure (wpAny_pure hq))
  · rcases hT with rfl | rfl
    · exact dt_empty s1.heap I1.big
    · exact dk_empty s1.heap I1.big
  · intro s1 H1 C cl fp pins' σ' H' s' D Nx I' q
    refine thnF ((hk s1 H1 C cl fp).run _ s' σ' H' _ I' q) ?_
    rintro kv s2 ⟨y, H2, I2, r2, q2⟩
    refine thnF ((he s1 H1 C cl fp).run _ s2 σ' H2 _ I2 q2) ?_
    rintro vv s3 ⟨z, H3, I3, r3, H4, put, nx⟩
    exact dset_ok (X := X.blk s1 H1 scope (compEnvC scope cl C X.env) fp) hr.units0 I3 put r2 r3 (fun s4 I4 => ⟨H4, I4, nx⟩)
  show wpAny _ _ (assign (.Name y py) X.env (.ref L)) _ _ _
  refine wpAny_assign_Name (store_ok2 (v := V.ref L) I' hN hy (.inl hyl) rfl (fun s2 I2 ⟨a, sb, ha⟩ => ?_) (.inr hyl))
  obtain ⟨f0, f1, f2, f3, f4, f5⟩ := f
  have haC : C ≠ a := by
    rcases ha with z | z
    · rw [z]; exact f1
    · exact fun e => f4 y a z e.symm
  refine ⟨m, hn.sameBut sb haC, fun h3 sb3 => ?_⟩
  exact ⟨_, H', I2.turned (t' := s2.toks) (fun b o hb e => (sb3.2 b hb).trans e) f0 f1 f3 f4 f5, q⟩
theorem sw_trueD {kx vx : Expr} {gs : List Comprehension} {scope : Scope} {pos py : Pos} {y : Str} {l : Nat} {env : Env} (hk : env.scope.kind = .function) (hy : env.scope.names.lookup y = some .local) (hl : (py.line == pos.line) = true)
    (ha : (scope.names.any fun (n, k) => n == y && (k == .local || k == .cell)) = false) : swapsWith (.DictComp kx vx gs scope pos) (some (.Name y py)) l env = pure true := by
  have ky : env.kindOf y = some .local := hy
  have hb : env.blockKind = .function := by unfold Env.blockKind; rw [hk]; rfl
  unfold swapsWith
  simp only [hb, ky, ha, Expr.pos, hl]
  rfl
end
end Rl
end
section
set_option maxHeartbeats 8000000
namespace Nl
open PySem PySem.Spec PyProof.Rows L2 Nt
theorem by_place {l : List Str} (nd : l.Nodup) (g : Nat → Int) : ∃ f : Str → Int, ∀ i, i < l.length → f (nmAt l i) = g i := by
  refine ⟨fun z => if h : ∃ i, i < l.length ∧ nmAt l i = z then g h.choose else 0, fun i hi => ?_⟩
  have h : ∃ j, j < l.length ∧ nmAt l j = nmAt l i := ⟨i, hi, rfl⟩
  show (if h : ∃ j, j < l.length ∧ nmAt l j = nmAt l i then g h.choose else 0) = g i
  rw [dif_pos h, nmAt_inj nd h.choose_spec.1 hi h.choose_spec.2]
theorem nat_len {n : Nat} : ∀ {l m : List Nat}, l.Nodup → (∀ x ∈ l, x ∈ m) → l.length ≤ m.length
  | [], m, _, _ => Nat.zero_le _
  | x :: l, m, nd, sub => by
    rw [List.nodup_cons] at nd
    have hx : x ∈ m := sub x List.mem_cons_self
    have := nat_len (n := n) (l := l) (m := m.erase x) nd.2 fun y hy => by
      have : y ≠ x := fun e => nd.1 (by rw [← e]; exact hy)
      exact (List.mem_erase_of_ne this).mpr (sub y (List.mem_cons_of_mem _ hy))
    have e := List.length_erase_of_mem hx
    have p : 0 < m.length := List.length_pos_of_mem hx
    rw [List.length_cons]
    omega
theorem fact_le : ∀ n, n < 13 → Dt.fact n * 60 ^ n ≤ 2 ^ 100 := by decide +kernel
theorem big_of {n : Nat} (hn : n ≤ 12) {x : Int} (h : -((n : Int) * ((2 ^ 2000 + 60) * (Dt.fact n * 60 ^ n))) ≤ x ∧ x ≤ (n : Int) * ((2 ^ 2000 + 60) * (Dt.fact n * 60 ^ n))) : x.natAbs < 2 ^ 2200 := by
  have f0 : 0 ≤ Dt.fact n * 60 ^ n := Int.mul_nonneg (by have := Dt.fact_pos n; omega) (Int.pow_nonneg (by decide))
  have f1 := fact_le n (by omega)
  have m1 : (2 ^ 2000 + 60) * (Dt.fact n * 60 ^ n) ≤ (2 ^ 2000 + 60) * 2 ^ 100 := Int.mul_le_mul_of_nonneg_left f1 (by decide +kernel)
  have m0 : 0 ≤ (2 ^ 2000 + 60) * (Dt.fact n * 60 ^ n) := Int.mul_nonneg (by decide +kernel) f0
  have m2 : (n : Int) * ((2 ^ 2000 + 60) * (Dt.fact n * 60 ^ n)) ≤ 12 * ((2 ^ 2000 + 60) * 2 ^ 100) := by
    have a1 := Int.mul_le_mul_of_nonneg_right (show (n : Int) ≤ 12 by omega) m0
    have a2 := Int.mul_le_mul_of_nonneg_left m1 (show (0 : Int) ≤ 12 by decide)
    omega
  have m3 : (12 : Int) * ((2 ^ 2000 + 60) * 2 ^ 100) < 2 ^ 2200 := by decide +kernel
  have e : ((2 ^ 2200 : Nat) : Int) = 2 ^ 2200 := by decide +kernel
  generalize (n : Int) * ((2 ^ 2000 + 60) * (Dt.fact n * 60 ^ n)) = y at h m2
  generalize (12 : Int) * ((2 ^ 2000 + 60) * 2 ^ 100) = u at m2 m3
  generalize (2 ^ 2200 : Nat) = v at e ⊢
  generalize (2 ^ 2200 : Int) = v' at m3 e
  omega
theorem bz_big {B : Br} {Pp : Pi} (wf : Wf Nm B Pp) {W : Str → Int} (hW : ∀ z ∈ nms B, -(2 ^ 2000) ≤ W z ∧ W z ≤ 2 ^ 2000) {S : Nat → Bool} {d : Int} {R : Nat → Nat → Int} (z : Dt.Bz (nms B).length (Mt B Pp W) S d R) :
    (∀ i c, i < (nms B).length → c ≤ (nms B).length → (R i c).natAbs < 2 ^ 2200) ∧ d.natAbs < 2 ^ 2200 := by
  have lN : (nms B).length ≤ 12 := by rw [nms_len]; exact wf.lb
  have h0 : (0 : Int) ≤ 2 ^ 2000 := by decide +kernel
  have h60 : (60 : Int) ≤ 2 ^ 2000 + 60 := by decide +kernel
  obtain ⟨a1, a2⟩ := mt_abs (Pp := Pp) wf (Y := 2 ^ 2000) h0 hW
  refine ⟨fun i c hi hc => big_of lN (z.abs (c := 60) (y := 2 ^ 2000 + 60) (by decide) h60 a1 a2 hi hc), ?_⟩
  by_cases e : (nms B).length = 0
  · have := z.dt
    rw [e] at this
    have : (1 : Int) = d := this
    rw [← this]
    decide +kernel
  · refine big_of lN ?_
    have := Dt.det_abs (c := 60) (by decide) (n := (nms B).length) (M := Dt.En (Mt B Pp W) S) fun a b ha hb => by
      unfold Dt.En
      split
      · exact a1 a b ha hb
      · split <;> omega
    rw [z.dt] at this
    have f0 : 0 ≤ Dt.fact (nms B).length * 60 ^ (nms B).length := Int.mul_nonneg (by have := Dt.fact_pos (nms B).length; omega) (Int.pow_nonneg (by decide))
    generalize Dt.fact (nms B).length * 60 ^ (nms B).length = y at this f0 ⊢
    have b1 : 1 * y ≤ (2 ^ 2000 + 60) * y := Int.mul_le_mul_of_nonneg_right (by decide +kernel) f0
    generalize (2 ^ 2000 + 60) * y = v at b1 ⊢
    have b2 : 1 * v ≤ ((nms B).length : Int) * v := Int.mul_le_mul_of_nonneg_right (by omega) (by omega)
    generalize ((nms B).length : Int) * v = u at b2 ⊢
    omega
section
variable {P : Program} {w : World} {K : PySem.W.Frag} {mg : Str → Option Value} {base : Heap}
/-- the least counts in fractions -/
structure Tops (B : Br) (Pp : Pi) (W tops : Str → Int) (d : Int) : Prop where
  d0 : 0 < d
  db : d.natAbs < 2 ^ 2200
  t0 : ∀ z ∈ nms B, 0 ≤ tops z
  tb : ∀ z ∈ nms B, (tops z).natAbs < 2 ^ 2200
  least : ∀ y : Str → Int, (∀ z ∈ nms B, 0 ≤ y z) → (∀ z ∈ nms B, W z - aY B Pp y z ≤ val0 B z - 1) → ∀ z ∈ nms B, tops z ≤ d * y z
  ok : ∀ z ∈ nms B, d * (W z - (val0 B z - 1)) ≤ aY B Pp tops z
  far : ∀ (e : Int) (y : Str → Int), 0 ≤ e → (∀ z ∈ nms B, 0 ≤ y z) → (∀ z ∈ nms B, e * (W z - (val0 B z - 1)) ≤ aY B Pp y z) → ∀ z ∈ nms B, e * tops z ≤ d * y z
theorem scLeast : FnScope ["net", "waters", "ponds", "rows", "bottom", "spilt", "over", "at", "tops", "name"] ["net", "waters"] (defScope sLeast) := ⟨rfl, rfl, rfl, by decide +kernel, rfl, by decide +kernel, by decide +kernel⟩
def spLeast (C : Addr) : Sp := fun vs H Q _ => ∃ (nn wa : Addr) (B : Br) (Pp : Pi) (Qw : Br), vs = [.ref nn, .ref wa] ∧ NetAt C H nn B Pp ∧ Good B Pp ∧ H wa = some (.dK (bk Qw)) ∧ Full B Qw ∧ (∀ z ∈ nms B, -(2 ^ 2000) ≤ val0 Qw z ∧ val0 Qw z ≤ 2 ^ 2000) ∧
  ∀ (H' : Hp) (t D : Addr) (tops : Str → Int) (d : Int), Same H H' → H D = none → H' t = some (.tup [.ref D, .int d]) → H' D = some (.dK (bk (mapN (nms B) tops))) → Tops B Pp (val0 Qw) tops d → Q (.ref t) H'
theorem ok_least {f C f1 f2 f3 f4 : Addr} {fd fd1 fd2 fd3 fd4 : FuncData} (F : Fun K "least_tops" "least_tops" sLeast f fd) (T : TxN K mg C)
    (m1 : Meth K C "ponds" f1) (G1 : FnOk P w K mg base CX0 1 f1 fd1 ["self"] (spPonds C)) (b1 : Binds K fd1 ["self"] [])
    (F2 : Fun K "balance_row" "balance_row" sBalRow f2 fd2) (G2 : FnOk P w K mg base CX0 6 f2 fd2 ["net", "waters", "name"] (spBalRow C)) (b2 : Binds K fd2 ["net", "waters", "name"] []) (g2 : mg "balance_row" = some (.ref f2))
    (F3 : Fun K "still_over" "still_over" sStill f3 fd3) (G3 : FnOk P w K mg base CX0 1 f3 fd3 ["rows", "spilt"] spStill) (b3 : Binds K fd3 ["rows", "spilt"] []) (g3 : mg "still_over" = some (.ref f3))
    (F4 : Fun K "solved_for" "solved_for" sSolved f4 fd4) (G4 : FnOk P w K mg base CX0 1 f4 fd4 ["rows", "at", "bottom"] spSolved) (b4 : Binds K fd4 ["rows", "at", "bottom"] []) (g4 : mg "solved_for" = some (.ref f4)) (me : mg "enumerate" = none) :
    FnOk P w K mg base CX0 7 f fd ["net", "waters"] (spLeast C) := by
  refine F.ok scLeast (fun vs H Q E h => ?_) (fun cdv A outer s H vs Q E hr h => ?_)
  · obtain ⟨nn, wa, B, Pp, Qw, rfl, _⟩ := h
    rfl
  · obtain ⟨nn, wa, B, Pp, Qw, rfl, N, good, hw, fw, hW, q⟩ := h
    have wf := good.wf
    have lN : (nms B).length ≤ 12 := by rw [nms_len]; exact wf.lb
    have hr1 := hr.mono (show 1 ≤ 6 by decide)
    obtain ⟨hh, mn⟩ := mt_mn good (val0 Qw)
    obtain ⟨n, hn⟩ : ∃ n, n = (nms B).length := ⟨_, rfl⟩
    refine ⟨_, pss_cons (ps_set (i := 2) scLeast.nd rfl (by first | exact .inl rfl | exact .inr rfl) (pe_meth0 (pv 0) T.cl m1 G1 hr1 b1 .nil pass0))
      (pss_cons (ps_set (i := 3) scLeast.nd rfl (by first | exact .inl rfl | exact .inr rfl) (pe_lc (own := [("name", 9)]) (g := gName 9) (tt := tYes) (te := tCall (spBalRow C) [] E0 (tCons (tVar 0) (tCons (tVar 1) (tCons (tVar 9) tNil)))) rfl scLeast.nd (pi_list (pv 2))
          (blkOk_by (N := ["net", "waters", "ponds", "rows", "bottom", "spilt", "over", "at", "tops", "name"]) (sc := defScope sLeast) (by decide +kernel)) (fun _ _ _ _ _ => pg_name (i := 9) scLeast.nd rfl (Or.inl rfl)) (fun _ _ _ _ _ => pts_nil)
          (fun _ _ _ _ _ => pe_call G2 hr (by rfl) g2 F2.kp b2 .nil pass0 (pa_cons (pv 0) (pa_cons (pv 1) (pa_cons (pv 9) pa_nil))))))
      (pss_cons (ps_set (i := 4) scLeast.nd rfl (by first | exact .inl rfl | exact .inr rfl) pe_int)
      (pss_cons (ps_set (i := 5) scLeast.nd rfl (by first | exact .inl rfl | exact .inr rfl) (pe_lst pa_nil))
      (pss_cons (ps_set (i := 6) scLeast.nd rfl (by first | exact .inl rfl | exact .inr rfl) (pe_call G3 hr1 (by rfl) g3 F3.kp b3 .nil pass0 (pa_cons (pv 3) (pa_cons (pv 5) pa_nil))))
      (pss_cons (ps_while PassesOwn.never (pt_truth (pv 6) (by intro _; rfl))
        (pss_cons (ps_set (i := 7) scLeast.nd rfl (by first | exact .inl rfl | exact .inr rfl) (pe_ix ix_list (pv 6) pe_int (fun _ _ => rfl)))
        (pss_cons (ps_set (i := 3) scLeast.nd rfl (by first | exact .inl rfl | exact .inr rfl) (pe_call G4 hr1 (by rfl) g4 F4.kp b4 .nil pass0 (pa_cons (pv 3) (pa_cons (pv 7) (pa_cons (pv 4) pa_nil)))))
        (pss_cons (ps_set (i := 4) scLeast.nd rfl (by first | exact .inl rfl | exact .inr rfl) (pe_ix ix_list (pe_ix ix_list (pv 3) (pv 7) (fun _ _ => rfl)) (pv 7) (fun _ _ => rfl)))
        (pss_cons (ps_expr (pe_bm PySem.F.plainAttrs_list PySem.F.slot_list_append PySem.F.type_list_append mt_append (pv 5) (pa_cons (pv 7) pa_nil)))
        (pss_one (ps_set (i := 6) scLeast.nd rfl (by first | exact .inl rfl | exact .inr rfl) (pe_call G3 hr1 (by rfl) g3 F3.kp b3 .nil pass0 (pa_cons (pv 3) (pa_cons (pv 5) pa_nil))))))))))
      (pss_cons (Rl.ps_setDc (T := .dK []) (i := 8) (own := [("at", 7), ("name", 9)]) (g := gTup K 2 (gCons (gName 7) (gCons (gName 9) gNil))) (tt := tYes) (tk := tVar 9)
          (tv := tIf (tTest (tOp (rIn K false) (tVar 7) (tVar 5))) (tOp (rIxL K) (tOp (rIxL K) (tVar 3) (tVar 7)) (tUn (rU fun i => .int (-i)) (tC (.int 1)))) (tC (.int 0)))
          (.inr rfl) hr rfl scLeast.nd rfl rfl (Rl.sw_trueD rfl rfl rfl (by decide +kernel)) (pi_enum (by rfl) me (pa_cons (pv 2) pa_nil))
          (blkOk_by (N := ["net", "waters", "ponds", "rows", "bottom", "spilt", "over", "at", "tops", "name"]) (sc := defScope sLeast) (by decide +kernel))
          (fun _ _ _ _ _ => pg_tup rfl (pgs_cons (pg_name (i := 7) scLeast.nd rfl (Or.inl rfl)) (pgs_cons (pg_name (i := 9) scLeast.nd rfl (Or.inl rfl)) pgs_nil))) (fun _ _ _ _ _ => pts_nil)
          (fun _ _ _ _ _ => pv 9) (fun _ _ _ _ _ => pe_ifExp (pt_cmpR op_in_seq (pv 7) (pv 5) (by rfl)) (pe_ix ix_list (pe_ix ix_list (pv 3) (pv 7) (fun _ _ => rfl)) (pe_un un_neg pe_int) (fun _ _ => rfl)) pe_int))
      (pss_one (ps_ret (pe_tup (pa_cons (pv 8) (pa_cons (pv 4) pa_nil))))))))))), ?_⟩
    obtain ⟨dx, d1, d2, hnn, _, _⟩ := N.at_
    refine ⟨.ref nn, rfl, nn, dx, _, rfl, hnn, no_attr, nn, B, Pp, rfl, N, fun e ne => ?_⟩
    have s1 := same_new (o := .lst ((nms B).map V.str)) ne
    refine ⟨.ref e, rfl, e, rfl, ⟨_, SqL.of upd_same⟩, fun D nD => ?_⟩
    refine lc_it (walk_list (K := K) (a := e) (xs := (nms B).map V.str)) (fun i H2 => ∃ ls : List Addr, H2 D = some (.lst (ls.map V.ref)) ∧ ls.length = i ∧ (∀ j a, ls[j]? = some a → H2 a = some (.lst (rowV (nms B).length fun c => Mt B Pp (val0 Qw) c j)) ∧ a ≠ D) ∧ Same (upd H e (.lst ((nms B).map V.str))) H2) ⟨[], upd_same, rfl, fun j a e => by simp at e, same_new nD⟩ (fun i H2 _ ⟨_, _, _, _, h⟩ => SqL.of (h e _ upd_same)) ?_ ?_
    · rintro i v H2 H2' hi ⟨ls, hD, hl, hls, sm⟩ ⟨rfl, hv⟩
      rw [List.getElem?_map] at hv
      cases hy : (nms B)[i]? with
      | none => rw [hy] at hv; cases hv
      | some x =>
        rw [hy] at hv
        have hx' : V.str x = v := Option.some.inj hv
        subst hx'
        rw [List.length_map] at hi
        have sA := s1.trans sm
        refine ⟨rfl, .ref nn, rfl, .ref wa, rfl, .str x, rfl, nn, wa, B, Pp, Qw, x, i, rfl, N.same sA, good, sA wa _ hw, fw, hy, fun H3 p s3 np hp => ?_⟩
        have hD3 := s3 D _ hD
        have n2 : p ≠ D := fun e => by subst e; rw [hD] at np; cases np
        refine ⟨_, hD3, by rw [List.length_map]; exact small1000 (by omega), ls ++ [p], ?_, ?_, fun j b e => ?_, ?_⟩
        · rw [upd_same, List.map_append]; rfl
        · rw [List.length_append, hl]; rfl
        · rcases Nat.lt_or_ge j ls.length with lt | ge
          · rw [List.getElem?_append_left lt] at e
            obtain ⟨e1, e2⟩ := hls j b e
            exact ⟨by rw [upd_ne e2]; exact s3 b _ e1, e2⟩
          · rw [List.getElem?_append_right ge] at e
            have ej : j - ls.length = 0 := by
              cases hh : j - ls.length with
              | zero => rfl
              | succ k => rw [hh] at e; simp at e
            rw [ej] at e
            have eb : p = b := Option.some.inj e
            subst eb
            have : j = i := by omega
            subst this
            exact ⟨by rw [upd_ne n2]; exact hp, n2⟩
        · exact fun b o eb => by
            have nb : b ≠ D := ne_of_none eb nD
            rw [upd_ne nb]; exact s3 b o (sm b o eb)
    · rintro H2 ⟨rs, hD, hl, hls, sm⟩
      rw [List.length_map] at hl
      have sA := s1.trans sm
      have hE2 := sm e _ upd_same
      refine ⟨Nat.zero_le _, fun sa nsa => ?_⟩
      have s3 := same_new (o := .lst []) nsa
      have RA0 : RowsAt (upd H2 sa (.lst [])) rs n (fun i c => Mt B Pp (val0 Qw) c i) := ⟨by rw [hl, hn], fun i a ea => by rw [hn]; exact s3 _ _ (hls i a ea).1⟩
      refine ⟨.ref D, rfl, .ref sa, rfl, D, sa, rs, n, [], _, rfl, s3 D _ hD, RA0, by omega, upd_same, fun H4 oa s4 no hoa => ?_⟩
      have z0 : Dt.Bz n (Mt B Pp (val0 Qw)) (fun j => decide (j ∈ ([] : List Nat))) 1 (fun i c => Mt B Pp (val0 Qw) c i) := by
        rw [hn]
        have := Dt.bz_start mn
        rw [show (fun j : Nat => decide (j ∈ ([] : List Nat))) = fun _ => false from by funext j; simp]
        exact this
      have sB := sA.trans (s3.trans s4)
      refine ⟨fun m σ H5 => ∃ (ra sa oa : Addr) (rs : List Addr) (d : Int) (sp : List Nat) (R : Nat → Nat → Int) (y7 : Option V), σ = [some (.ref nn), some (.ref wa), some (.ref e), some (.ref ra), some (.int d), some (.ref sa), some (.ref oa), y7, none, none] ∧ Same H H5 ∧ H5 e = some (.lst ((nms B).map V.str)) ∧
          H5 ra = some (.lst (rs.map V.ref)) ∧ RowsAt H5 rs n R ∧ H5 sa = some (.lst (natsV sp)) ∧ H sa = none ∧ H5 oa = some (.lst (natsV (stillL n sp R))) ∧ Dt.Bz n (Mt B Pp (val0 Qw)) (fun j => decide (j ∈ sp)) d R ∧ sp.Nodup ∧ (∀ j ∈ sp, j < n) ∧ m = n - sp.length,
        ⟨_, D, sa, oa, rs, 1, [], _, none, rfl, sB, s4 e _ (s3 e _ hE2), s4 D _ (s3 D _ hD), RA0.same s4, s4 sa _ upd_same, sA.free nsa, hoa, z0, List.nodup_nil, fun j hj => absurd hj List.not_mem_nil, rfl⟩, ?_⟩
      rintro m σ H5 ⟨ra, sa, oa, rs, d, sp, R, y7, rfl, sm5, hE5, hra, RA, hsa, nsa5, hoa, bz, ndS, subS, rfl⟩
      refine ⟨.ref oa, rfl, !(natsV (stillL n sp R)).isEmpty, .inl ⟨_, SqL.of hoa, rfl⟩, ite2 (fun c => ?_) (fun c => ?_)⟩
      · obtain ⟨t, ov, ho⟩ : ∃ t ov, stillL n sp R = t :: ov := by
          cases h : stillL n sp R with
          | nil => rw [h] at c; exact absurd c (by decide)
          | cons t ov => exact ⟨t, ov, rfl⟩
        have mt : t ∈ stillL n sp R := by rw [ho]; exact List.mem_cons_self
        obtain ⟨tn, tS, tp⟩ := stillL_mem.mp mt
        have St : (fun j => decide (j ∈ sp)) t = false := decide_eq_false tS
        rw [hn] at bz tn
        obtain ⟨RB, dB⟩ := bz_big wf hW bz
        have pp := Dt.piv_pos mn bz tn St
        obtain ⟨qf, hqf⟩ : ∃ qf : Nat → Nat → Int, qf = fun i c => if i = t then 0 else Dt.det (nms B).length (Dt.put (Dt.En (Mt B Pp (val0 Qw)) (Dt.S1 (fun j => decide (j ∈ sp)) t)) i (Mt B Pp (val0 Qw) c)) := ⟨_, rfl⟩
        have ev : ∀ i c, i < (nms B).length → c ≤ (nms B).length → R i c * R t t - R i t * R t c = d * qf i c := fun i c hi hc => by
          rw [hqf]
          by_cases e : i = t
          · subst e
            show _ = d * (if i = i then 0 else _)
            rw [if_pos rfl, Int.mul_zero, Int.mul_comm]; omega
          · show _ = d * (if i = t then 0 else _)
            rw [if_neg e, ← Dt.num_div bz tn St (by omega) hc hi]
            unfold Dt.num
            rw [if_neg e]
        refine ⟨fun σ' H' => ∃ m', m' < n - sp.length ∧ ∃ (ra sa oa : Addr) (rs : List Addr) (d : Int) (sp : List Nat) (R : Nat → Nat → Int) (y7 : Option V), σ' = [some (.ref nn), some (.ref wa), some (.ref e), some (.ref ra), some (.int d), some (.ref sa), some (.ref oa), y7, none, none] ∧ Same H H' ∧ H' e = some (.lst ((nms B).map V.str)) ∧
          H' ra = some (.lst (rs.map V.ref)) ∧ RowsAt H' rs n R ∧ H' sa = some (.lst (natsV sp)) ∧ H sa = none ∧ H' oa = some (.lst (natsV (stillL n sp R))) ∧ Dt.Bz n (Mt B Pp (val0 Qw)) (fun j => decide (j ∈ sp)) d R ∧ sp.Nodup ∧ (∀ j ∈ sp, j < n) ∧ m' = n - sp.length, fun σ' H' h => h, ?_⟩
        refine ⟨.ref oa, rfl, oa, _, 0, .int (t : Nat), rfl, rfl, SqL.of hoa, atI_nat (j := 0) (by rw [ho]; rfl), ?_⟩
        refine ⟨.ref ra, rfl, .int (t : Nat), rfl, .int d, rfl, ra, rs, n, t, d, R, qf, rfl, hra, RA, by omega, by omega, bz.pos, dB, fun i c hi hc => RB i c (by omega) (by omega), fun i c hi hc => ev i c (by omega) (by omega), fun H6 ra' rs' s6 nra' hra' RA' => ?_⟩
        have et : (rs'.map V.ref)[t]? = some (.ref (rs'[t]'(by rw [RA'.len]; omega))) := by
          rw [List.getElem?_map, List.getElem?_eq_getElem (by rw [RA'.len]; omega)]; rfl
        obtain ⟨a', ha'⟩ : ∃ a', a' = rs'[t]'(by rw [RA'.len]; omega) := ⟨_, rfl⟩
        rw [← ha'] at et
        have hA' := RA'.at_ t a' (by rw [ha']; exact List.getElem?_eq_getElem _)
        refine ⟨.ref ra', rfl, .int (t : Nat), rfl, ra', _, _, .ref a', rfl, rfl, SqL.of hra', atI_nat et, .int (t : Nat), rfl, a', _, _, .int (R t t), rfl, rfl, SqL.of hA', atI_nat (by rw [rowV_at _ (by omega)]; simp), ?_⟩
        have hsa6 := s6 sa _ hsa
        refine ⟨.ref sa, rfl, .inl ⟨rfl, _, SqL.of hsa6⟩, .int (t : Nat), rfl, sa, _, _, rfl, rfl, hsa6, ?_, ?_⟩
        · rw [List.length_map]
          have := nat_len (n := 0) ndS (m := List.range n) fun x hx => List.mem_range.mpr (subS x hx)
          rw [List.length_range] at this
          exact small1000 (by omega)
        have lsp : sp.length < n := by
          have := nat_len (n := 0) (l := t :: sp) (m := List.range n) (List.nodup_cons.mpr ⟨tS, ndS⟩) fun x hx => List.mem_range.mpr (by
            rcases List.mem_cons.mp hx with rfl | hx
            · omega
            · exact subS x hx)
          rw [List.length_range, List.length_cons] at this
          omega
        have k7 : ∀ {b : Addr} {xs : List V} (x : HO), H6 b = some (.lst xs) → xs.length ≠ sp.length → (upd H6 sa x) b = some (.lst xs) := fun {b xs} x eb ne => by
          rw [upd_ne (fun z => by
            subst z
            rw [hsa6] at eb
            have : natsV sp = xs := by injection eb with eb; injection eb
            apply ne
            rw [← this, List.length_map])]
          exact eb
        obtain ⟨H7, hH7⟩ : ∃ H7, H7 = upd H6 sa (.lst (natsV sp ++ [.int (t : Nat)])) := ⟨_, rfl⟩
        rw [← hH7]
        have hsa7 : H7 sa = some (.lst (natsV (sp ++ [t]))) := by rw [hH7, upd_same, natsV_append]; rfl
        have hra7 : H7 ra' = some (.lst (rs'.map V.ref)) := by rw [hH7]; exact k7 _ hra' (by rw [List.length_map, RA'.len]; omega)
        have hE7 : H7 e = some (.lst ((nms B).map V.str)) := by rw [hH7]; exact k7 _ (s6 e _ hE5) (by rw [List.length_map]; omega)
        have RA7 : RowsAt H7 rs' n (fun i c => if i = t then R t c else qf i c) := ⟨RA'.len, fun i a ea => by rw [hH7]; exact k7 _ (RA'.at_ i a ea) (by rw [rowV_len]; omega)⟩
        have sm7 : Same H H7 := fun b o eb => by
          rw [hH7, upd_ne (ne_of_none eb nsa5)]; exact s6 b o (sm5 b o eb)
        refine ⟨.ref ra', rfl, .ref sa, rfl, ra', sa, rs', n, sp ++ [t], _, rfl, hra7, RA7, by omega, hsa7, fun H8 oa' s8 no' hoa' => ?_⟩
        have bz' := Dt.bz_step bz tn St pp (by rw [← hn]; omega) (R' := fun i c => if i = t then R t c else qf i c) (fun c _ => if_pos rfl) (fun i c hi hc ne => by
          show d * (if i = t then R t c else qf i c) = _
          rw [if_neg ne, ev i c hi hc])
        rw [show Dt.S1 (fun j => decide (j ∈ sp)) t = fun j => decide (j ∈ sp ++ [t]) from by
          funext j
          unfold Dt.S1
          by_cases e : j = t
          · rw [if_pos e]; simp [e]
          · rw [if_neg e]; simp [e], ← hn] at bz'
        refine ⟨_, ?_, ra', sa, oa', rs', R t t, sp ++ [t], _, _, rfl, sm7.trans s8, s8 e _ hE7, s8 ra' _ hra7, RA7.same s8, s8 sa _ hsa7, nsa5, hoa', bz', ?_, fun j hj => ?_, rfl⟩
        · rw [List.length_append]; show n - (sp.length + 1) < n - sp.length; omega
        · exact List.nodup_append.mpr ⟨ndS, by simp, fun x hx y hy e => by
            have e2 : y = t := by simpa using hy
            exact tS (by rw [← e2, ← e]; exact hx)⟩
        · rcases List.mem_append.mp hj with h | h
          · exact subS j h
          · have : j = t := by simpa using h
            omega
      · have nil : stillL n sp R = [] := by
          cases h : stillL n sp R with
          | nil => rfl
          | cons t ov => rw [h] at c; exact absurd rfl c
        rw [hn] at bz
        obtain ⟨RB, dB⟩ := bz_big wf hW bz
        obtain ⟨tops, htops⟩ := by_place wf.nb fun i => if i ∈ sp then R i n else 0
        have byI : ∀ z ∈ nms B, ∃ i, i < (nms B).length ∧ nmAt (nms B) i = z := fun z hz => by
          obtain ⟨i, hi, e⟩ := List.getElem_of_mem hz
          exact ⟨i, hi, nmAt_of (by rw [List.getElem?_eq_getElem hi, e])⟩
        refine ⟨.ref e, rfl, e, _, rfl, SqL.of hE5, fun D3 nD3 => ?_⟩
        refine Rl.gc_it (b0 := fun _ => .dK []) (walk_enum (K := K) (a := e) (xs := (nms B).map V.str)) (fun i H6 => H6 D3 = some (.dK (bk (mapN ((nms B).take i) tops))) ∧ Same H5 H6) ⟨upd_same, same_new nD3⟩ (fun i H6 _ h => SqL.of (h.2 e _ hE5)) ?_ ?_
        · rintro i v H6 H6' hi ⟨hD3, sm6⟩ ⟨T, x, y, rfl, nT, rfl, hx, hy⟩
          rw [List.length_map] at hi
          cases Option.some.inj hx
          have hz : (nms B)[i]? = some (nms B)[i] := List.getElem?_eq_getElem hi
          obtain ⟨z, ez⟩ : ∃ z, z = (nms B)[i] := ⟨_, rfl⟩
          rw [← ez] at hz
          have hy : ((nms B).map V.str)[i]? = some y := hy
          rw [List.getElem?_map, hz] at hy
          cases Option.some.inj hy
          have s7 := same_new (o := .tup [.int (i : Nat), .str z]) nT
          have s67 := sm6.trans s7
          have hD7 := s7 D3 _ hD3
          have tz : tops z = if i ∈ sp then R i n else 0 := by rw [← nmAt_of hz, htops i hi]
          have put : ∃ H8, DPut (upd H6 T (.tup [.int (i : Nat), .str z])) D3 (.str z) (.int (tops z)) H8 ∧ H8 D3 = some (.dK (bk (mapN ((nms B).take (i + 1)) tops))) ∧ Same H5 H8 := by
            refine ⟨_, DPut.k (k := Sum.inr z) hD7 ?_, ?_, ?_⟩
            · rw [bk_len]
              unfold mapN
              rw [List.length_map, List.length_take]
              exact small1000 (by omega)
            · have fr : z ∉ nms (mapN ((nms B).take i) tops) := by
                unfold mapN
                rw [nms_map]
                exact take_nd wf.nb hz
              rw [upd_same, putK_bk fr, mapN_take _ tops i hz]
            · exact fun b o eb => by
                have nb : b ≠ D3 := ne_of_none eb nD3
                rw [upd_ne nb]; exact s67 b o eb
          obtain ⟨H8, p1, p2⟩ := put
          refine ⟨T, [.int (i : Nat), .str z], rfl, SqT.of upd_same, rfl, .int (i : Nat), [.str z], rfl, .str z, [], rfl, rfl, rfl, ?_⟩
          refine ⟨.str z, rfl, .int (i : Nat), rfl, .ref sa, rfl, sa, natsV sp, rfl, .inl (SqL.of (s67 sa _ hsa)), rfl, flat_nats _, _, rfl, ?_⟩
          rw [inV_nats]
          refine ite2 (fun c => ?_) (fun c => ?_)
          · rw [if_pos (of_decide_eq_true c)] at tz
            rw [tz] at p1
            have li : i < rs.length := by rw [RA.len]; omega
            have ha := RA.at_ i rs[i] (List.getElem?_eq_getElem li)
            exact ⟨.ref ra, rfl, .int (i : Nat), rfl, ra, _, _, .ref rs[i], rfl, rfl, SqL.of (s67 ra _ hra), atI_nat (by rw [List.getElem?_map, List.getElem?_eq_getElem li]; rfl), 1, rfl, rs[i], _, _, .int (R i n), rfl, rfl, SqL.of (s67 _ _ ha), rowV_last n (R i), H8, p1, p2⟩
          · rw [if_neg (fun h => c (decide_eq_true h))] at tz
            rw [tz] at p1
            exact ⟨H8, p1, p2⟩
        · rintro H6 ⟨hD3, sm6⟩
          rw [List.length_map, List.take_length] at hD3
          refine ⟨.ref D3, rfl, .int d, rfl, (by show 2 ≤ sizeLine; decide), fun tt ntt => ?_⟩
          have s7 := same_new (o := .tup [.ref D3, .int d]) ntt
          refine q _ tt D3 tops d (sm5.trans (sm6.trans s7)) (sm5.free nD3) upd_same (s7 D3 _ hD3) ⟨bz.pos, dB, fun z hz => ?_, fun z hz => ?_, fun y y0 hy z hz => ?_, fun z hz => ?_, fun e y e0 y0 hy z hz => ?_⟩
          · obtain ⟨i, hi, rfl⟩ := byI z hz
            rw [htops i hi]
            split
            · rename_i c
              rw [hn]
              exact bz.top i hi (decide_eq_true c)
            · exact Int.le_refl _
          · obtain ⟨i, hi, rfl⟩ := byI z hz
            rw [htops i hi]
            split
            · exact RB i n hi (by omega)
            · decide +kernel
          · obtain ⟨i, hi, rfl⟩ := byI z hz
            rw [htops i hi]
            split
            · rename_i c
              rw [hn]
              refine Dt.tops_le mn bz (y := fun k => y (nmAt (nms B) k)) (fun k hk => y0 _ (nmAt_mem hk)) (fun k hk => ?_) i hi (decide_eq_true c)
              rw [mt_ay wf _ _ hk, mt_last]
              have := hy _ (nmAt_mem hk)
              omega
            · exact Int.mul_nonneg (by have := bz.pos; omega) (y0 _ hz)
          · obtain ⟨i, hi, rfl⟩ := byI z hz
            have := Dt.tops_ok bz (fun k hk hS => by
              rcases Int.lt_or_le 0 (R k (nms B).length) with c2 | c2
              · have : k ∈ stillL n sp R := stillL_mem.mpr ⟨by omega, of_decide_eq_false hS, by rw [hn]; exact c2⟩
                rw [nil] at this
                exact absurd this List.not_mem_nil
              · exact c2) i hi
            rw [mt_last] at this
            refine Int.le_trans this (Int.le_of_eq ?_)
            rw [← mt_ay wf (val0 Qw) tops hi]
            refine Dt.sm_congr fun k hk => ?_
            rw [htops k hk, hn]
            by_cases c2 : k ∈ sp
            · rw [if_pos c2, if_pos (decide_eq_true c2)]
            · rw [if_neg c2, if_neg (by simpa using c2)]
          · obtain ⟨i, hi, rfl⟩ := byI z hz
            rw [htops i hi]
            split
            · rename_i c
              rw [hn]
              refine Dt.tops_leE mn bz e0 (y := fun k => y (nmAt (nms B) k)) (fun k hk => y0 _ (nmAt_mem hk)) (fun k hk => ?_) i hi (decide_eq_true c)
              rw [mt_ay wf _ _ hk, mt_last]
              exact hy _ (nmAt_mem hk)
            · rw [Int.mul_zero]
              exact Int.mul_nonneg (by have := bz.pos; omega) (y0 _ hz)
end
end Nl
end
section
set_option maxHeartbeats 4000000
namespace Nl
open PySem PySem.Spec PyProof.Rows L2 Nt
section
variable {P : Program} {w : World} {K : PySem.W.Frag} {mg : Str → Option Value} {base : Heap}
theorem scGcd : FnScope ["one", "other"] ["one", "other"] (defScope sGcd) := ⟨rfl, rfl, rfl, by decide +kernel, rfl, by decide +kernel, by decide +kernel⟩
def spGcd : Sp := fun vs H Q _ => ∃ (a b : Nat), vs = [.int (a : Nat), .int (b : Nat)] ∧ ∀ H', Same H H' → Q (.int (Nat.gcd a b : Nat)) H'
theorem ok_gcd {f : Addr} {fd : FuncData} {k : Nat} (F : Fun K "common_divisor" "common_divisor" sGcd f fd) : FnOk P w K mg base CX0 (k + 1) f fd ["one", "other"] spGcd := by
  refine F.ok scGcd (fun vs H Q E h => ?_) (fun cdv A outer s H vs Q E hr h => ?_)
  · obtain ⟨a, b, rfl, _⟩ := h
    rfl
  · obtain ⟨a, b, rfl, q⟩ := h
    refine ⟨_, pss_cons (ps_while PassesOwn.never (pt_truth (pv 1) (by intro _; rfl))
        (pss_one (ps_par (i := 0) (j := 1) rfl scGcd.nd rfl rfl (by decide) rfl rfl (pa_cons (pv 1) (pa_cons (pe_op op_mod (pv 0) (pv 1)) pa_nil)) (by rfl))))
      (pss_one (ps_ret (pv 0))), ?_⟩
    refine ⟨fun m σ H2 => ∃ x y : Nat, σ = [some (.int (x : Nat)), some (.int (y : Nat))] ∧ Same H H2 ∧ Nat.gcd x y = Nat.gcd a b ∧ m = y, ⟨_, a, b, rfl, Same.refl _, rfl, rfl⟩, ?_⟩
    rintro m σ H2 ⟨x, y, rfl, sm, eg, rfl⟩
    refine ⟨.int (m : Nat), rfl, ((m : Int) != 0), rfl, ite2 (fun c => ?_) (fun c => ?_)⟩
    · have y0 : m ≠ 0 := fun e => by subst e; exact absurd c (by decide)
      refine ⟨fun σ' H' => ∃ m', m' < m ∧ ∃ x y : Nat, σ' = [some (.int (x : Nat)), some (.int (y : Nat))] ∧ Same H H' ∧ Nat.gcd x y = Nat.gcd a b ∧ m' = y, fun σ' H' h => h, ?_⟩
      refine ⟨.int (m : Nat), rfl, .int (x : Nat), rfl, .int (m : Nat), rfl, _, _, rfl, rfl, (by show (0 : Int) < (m : Int); omega), _, _, rfl, ?_⟩
      refine ⟨x % m, Nat.mod_lt _ (by omega), m, x % m, rfl, sm, ?_, rfl⟩
      rw [← eg, Nat.gcd_comm x m, Nat.gcd_rec m x, Nat.gcd_comm]
    · have y0 : m = 0 := Decidable.byContradiction fun h => c (bne_iff_ne.mpr (by omega))
      subst y0
      rw [Nat.gcd_zero_right] at eg
      refine ⟨.int (x : Nat), rfl, ?_⟩
      rw [eg]
      exact q H2 sm
theorem scFrac : FnScope ["top", "bottom", "divisor"] ["top", "bottom"] (defScope sFrac) := ⟨rfl, rfl, rfl, by decide +kernel, rfl, by decide +kernel, by decide +kernel⟩
def spFrac : Sp := fun vs H Q _ => ∃ (a b : Nat), vs = [.int (a : Nat), .int (b : Nat)] ∧ 0 < b ∧ b < 2 ^ 2200 ∧ ∀ (H' : Hp) (t : Addr), Same H H' → H t = none → H' t = some (.tup [.int (a / Nat.gcd a b : Nat), .int (b / Nat.gcd a b : Nat)]) → Q (.ref t) H'
theorem ok_frac {f f1 : Addr} {fd fd1 : FuncData} {k : Nat} (F : Fun K "fraction" "fraction" sFrac f fd)
    (F1 : Fun K "common_divisor" "common_divisor" sGcd f1 fd1) (G1 : FnOk P w K mg base CX0 1 f1 fd1 ["one", "other"] spGcd) (b1 : Binds K fd1 ["one", "other"] []) (g1 : mg "common_divisor" = some (.ref f1)) : FnOk P w K mg base CX0 2 f fd ["top", "bottom"] spFrac := by
  refine F.ok scFrac (fun vs H Q E h => ?_) (fun cdv A outer s H vs Q E hr h => ?_)
  · obtain ⟨a, b, rfl, _⟩ := h
    rfl
  · obtain ⟨a, b, rfl, b0, bb, q⟩ := h
    refine ⟨_, pss_cons (ps_set (i := 2) scFrac.nd rfl (by first | exact .inl rfl | exact .inr rfl) (pe_call G1 hr (by rfl) g1 F1.kp b1 .nil pass0 (pa_cons (pv 0) (pa_cons (pv 1) pa_nil))))
      (pss_one (ps_ret (pe_tup (pa_cons (pe_op op_fdivW (pv 0) (pv 2)) (pa_cons (pe_op op_fdivW (pv 1) (pv 2)) pa_nil))))), ?_⟩
    refine ⟨.int (a : Nat), rfl, .int (b : Nat), rfl, a, b, rfl, fun H1 s1 => ?_⟩
    have g0 : 0 < Nat.gcd a b := Nat.gcd_pos_of_pos_right _ b0
    have gb : Nat.gcd a b < 2 ^ 2200 := Nat.lt_of_le_of_lt (Nat.gcd_le_right _ b0) bb
    have cd : ∀ i : Int, CDivW i ((Nat.gcd a b : Nat) : Int) := fun i => wide_div (b := 2200) (by omega) (by rw [Int.natAbs_natCast]; exact gb) (by decide) (by decide)
    refine ⟨.int (a : Nat), rfl, .int (Nat.gcd a b : Nat), rfl, _, _, rfl, rfl, cd _, .int (b : Nat), rfl, .int (Nat.gcd a b : Nat), rfl, _, _, rfl, rfl, cd _, ?_⟩
    refine ⟨line1000 (by show 2 ≤ 1000; decide), fun t nt => ?_⟩
    refine q _ t (s1.trans (same_new nt)) (s1.free nt) ?_
    rw [upd_same]
    rfl
end
end Nl
end
section
set_option maxHeartbeats 4000000
namespace Nl
open PySem PySem.Spec PyProof.Rows L2 Nt
/-- a dict from names to tuples of two ints -/
def FracAt (H : Hp) (d : Addr) (g : Str → Int × Int) (l : List Str) : Prop := ∃ ls : List (Str × Addr), H d = some (.dK (ls.map fun p => ((Sum.inr p.1 : Key), V.ref p.2))) ∧ ls.map Prod.fst = l ∧ ∀ p ∈ ls, H p.2 = some (.tup [.int (g p.1).1, .int (g p.1).2])
theorem FracAt.same {H H' : Hp} {d : Addr} {g : Str → Int × Int} {l : List Str} (h : FracAt H d g l) (s : Same H H') : FracAt H' d g l := by
  obtain ⟨ls, a, b, c⟩ := h
  exact ⟨ls, s _ _ a, b, fun p hp => s _ _ (c p hp)⟩
theorem FracAt.unlock {H1 : Hp} {d D : Addr} {od : Obj} {u : List (Key × V)} {g : Str → Int × Int} {l : List Str} (S : FracAt H1 D g l) (l1 : H1 d = some (.frz od (.dK u))) : FracAt (upd H1 d (.dK u)) D g l := by
  obtain ⟨ls, a, b, c⟩ := S
  refine ⟨ls, ?_, b, fun p hp => ?_⟩
  · rw [upd_ne (fun z => by subst z; rw [l1] at a; cases a)]; exact a
  · have := c p hp
    rw [upd_ne (fun z => by rw [z, l1] at this; cases this)]; exact this
/-- {name: (a tuple of two) for name in a dict} -/
theorem frac_dc {B : Br} {g : Str → Int × Int} {d D : Addr} {od : Obj} {H1 : Hp} {σ : L2.St} {tv : TE} {j : Nat} {Qd : Hp → Prop} (nd : (nms B).Nodup) (ln : B.length ≤ 12) (he : H1 d = some (.frz od (.dK (bk B)))) (nD : H1 D = none)
    (hj : ∀ z : Str, ((wipe σ [j]).set j (some (.str z)))[j]? = some (some (V.str z))) (hw : ∀ z : Str, wipe ((wipe σ [j]).set j (some (.str z))) [j] = wipe σ [j])
    (ht : ∀ (z : Str) (H2 : Hp) (R : V → Hp → Prop), z ∈ nms B → Same H1 H2 → (∀ H3 p, Same H2 H3 → H2 p = none → H3 p = some (.tup [.int (g z).1, .int (g z).2]) → R (.ref p) H3) → tv ((wipe σ [j]).set j (some (.str z))) H2 R)
    (hd : ∀ H2, FracAt H2 D g (nms B) → Same H1 H2 → Qd H2) :
    ∃ W : Nat → Nat → Hp → Prop, (∃ m, W 0 m (upd H1 D (.dK []))) ∧ ∀ i m H, W i m H →
      ((Itk d od (bk B)).stop i H ∧ Qd H) ∨ ((Itk d od (bk B)).go i H ∧ ∃ Nx : Hp → Prop, (∀ H', Nx H' → ∃ m', m' < m ∧ W (i + 1) m' H') ∧
        ∀ x H', (Itk d od (bk B)).yld i H x H' → gName j x (wipe σ [j]) H' fun σ2 H2 => wipe σ2 [j] = wipe σ [j] ∧ tYes σ2 H2 fun b H3 => if b = true then Rl.tbD (tVar j) tv D σ2 H3 Nx else Nx H3) := by
  refine Rl.gc_it (n := (bk B).length) (b0 := fun _ => .dK []) walk_keys (fun i H2 => FracAt H2 D g ((nms B).take i) ∧ Same H1 H2) ⟨⟨[], upd_same, rfl, fun p hp => (List.not_mem_nil hp).elim⟩, same_new nD⟩ (fun i H2 _ h => h.2 d _ he) ?_ ?_
  · rintro i x H2 H2' hi ⟨⟨ls, hD, hk, hl⟩, sm⟩ ⟨rfl, kk, v, hkv, rfl⟩
    obtain ⟨p, hp, rfl, rfl⟩ := bk_at hkv
    have hn : (nms B)[i]? = some p.1 := by unfold nms; rw [List.getElem?_map, hp]; rfl
    refine ⟨hw p.1, ?_⟩
    show Rl.tbD (tVar j) tv D (List.set (wipe σ [j]) j (some (V.str p.1))) H2' fun H2 => FracAt H2 D g ((nms B).take (i + 1)) ∧ Same H1 H2
    refine ⟨.str p.1, hj p.1, ht p.1 H2' _ (List.mem_of_getElem? hn) sm fun H3 q s3 nq hq => ⟨_, DPut.k (k := Sum.inr p.1) (s3 D _ hD) ?_, ?_, ?_⟩⟩
    · rw [List.length_map]
      have e1 := congrArg List.length hk
      rw [List.length_map, List.length_take] at e1
      exact small1000 (by have : (nms B).length = B.length := List.length_map _; omega)
    · have fr : p.1 ∉ ls.map Prod.fst := by rw [hk]; exact take_nd nd hn
      have hD3 := s3 D _ hD
      have kt : ∀ b xs, H3 b = some (.tup xs) → (upd H3 D (.dK (putK (ls.map fun p => ((Sum.inr p.1 : Key), V.ref p.2)) (Sum.inr p.1) (.ref q)))) b = some (.tup xs) := fun b xs e => by
        rw [upd_ne (fun z => by subst z; rw [hD3] at e; cases e)]; exact e
      refine ⟨ls ++ [(p.1, q)], ?_, ?_, fun r hr => ?_⟩
      · rw [upd_same, putK_new _ (rk_val fr), List.map_append]; rfl
      · rw [List.map_append, hk, List.take_add_one, hn]; rfl
      · rcases List.mem_append.mp hr with hr | hr
        · exact kt _ _ (s3 _ _ (hl r hr))
        · have er : r = (p.1, q) := by simpa using hr
          subst er
          exact kt _ _ hq
    · exact fun c o ec => by
        have nb : c ≠ D := ne_of_none ec nD
        rw [upd_ne nb]; exact s3 c o (sm c o ec)
  · rintro H2 ⟨S, sm⟩
    rw [bk_len, ← nms_len', List.take_length] at S
    exact hd H2 S sm
section
variable {P : Program} {w : World} {K : PySem.W.Frag} {mg : Str → Option Value} {base : Heap}
theorem scShares : FnScope ["net", "poured", "tops", "bottom", "name"] ["net", "poured"] (defScope sShares) := ⟨rfl, rfl, rfl, by decide +kernel, rfl, by decide +kernel, by decide +kernel⟩
/-- a fraction without a common divisor -/
def frac (t d : Int) : Int × Int := (((t.toNat / Nat.gcd t.toNat d.toNat : Nat) : Int), ((d.toNat / Nat.gcd t.toNat d.toNat : Nat) : Int))
def spShares (C : Addr) : Sp := fun vs H Q _ => ∃ (n pa : Addr) (B : Br) (Pp : Pi) (Qp : Br), vs = [.ref n, .ref pa] ∧ NetAt C H n B Pp ∧ Good B Pp ∧ H pa = some (.dK (bk Qp)) ∧ (nms Qp).Nodup ∧ Qp.length ≤ 12 ∧ (∀ x ∈ Qp, x.1 ∈ nms B ∧ 0 ≤ x.2 ∧ x.2 ≤ 2 ^ 2000) ∧
  ∀ (H' : Hp) (D : Addr) (tops : Str → Int) (d : Int), Same H H' → H D = none → FracAt H' D (fun z => frac (tops z) d) (nms B) → Tops B Pp (val0 Qp) tops d → Q (.ref D) H'
theorem ok_shares {f CS C f1 f2 f3 fSI : Addr} {fd fd1 fd2 fd3 fdSI : FuncData} {dsS : List Value} (F : Fun K "shares" "shares" sShares f fd) (TS : TxS K mg CS)
    (F1 : Fun K "least_tops" "least_tops" sLeast f1 fd1) (G1 : FnOk P w K mg base CX0 7 f1 fd1 ["net", "waters"] (spLeast C)) (b1 : Binds K fd1 ["net", "waters"] []) (g1 : mg "least_tops" = some (.ref f1))
    (F2 : Fun K "fraction" "fraction" sFrac f2 fd2) (G2 : FnOk P w K mg base CX0 2 f2 fd2 ["top", "bottom"] spFrac) (b2 : Binds K fd2 ["top", "bottom"] []) (g2 : mg "fraction" = some (.ref f2))
    (m3 : Meth K CS "pours" f3) (G3 : FnOk P w K mg base CX0 1 f3 fd3 ["self"] (spPours CS C)) (b3 : Binds K fd3 ["self"] [])
    (MS : Mk K CS fSI) (GSI : FnOk P w K mg base CX0 5 fSI fdSI ["self", "net", "poured", "counts"] (spSInit CS C)) (bSI : Binds K fdSI ["self", "net", "poured", "counts"] dsS) (vSI : Vals [.non] dsS) :
    FnOk P w K mg base CX0 8 f fd ["net", "poured"] (spShares C) := by
  refine F.ok scShares (fun vs H Q E h => ?_) (fun cdv A outer s H vs Q E hr h => ?_)
  · obtain ⟨n, pa, B, Pp, Qp, rfl, _⟩ := h
    rfl
  · obtain ⟨n, pa, B, Pp, Qp, rfl, N, good, hp, ndp, lp, okp, q⟩ := h
    have hu := hu_of hr
    have hr1 := hr.mono (show 1 ≤ 7 by decide)
    have hr2 := hr.mono (show 2 ≤ 7 by decide)
    have hr6 := hr.mono (show 6 ≤ 7 by decide)
    refine ⟨_, pss_cons (ps_asg (pe_call G1 hr (by rfl) g1 F1.kp b1 .nil pass0 (pa_cons (pv 0) (pa_cons (pe_meth0 (pe_make MS GSI hr6 (by rfl) TS.mgC bSI vSI pass0 (pa_cons (pv 0) (pa_cons (pv 1) pa_nil))) TS.cl m3 G3 hr1 b3 .nil pass0) pa_nil))) (pg_tup rfl (pgs_cons (pg_name (i := 2) scShares.nd rfl (by first | exact .inl rfl | exact .inr rfl)) (pgs_cons (pg_name (i := 3) scShares.nd rfl (by first | exact .inl rfl | exact .inr rfl)) pgs_nil))))
      (pss_one (ps_ret (pe_lock (Rl.pe_dcP (T := .dK []) (own := [("name", 4)]) (g := gName 4) (tt := tYes) (.inr rfl) hr rfl scShares.nd (pi_keys (pv 2))
        (blkOk_by (N := ["net", "poured", "tops", "bottom", "name"]) (sc := defScope sShares) (by decide +kernel)) (fun _ _ _ _ _ => pg_name (i := 4) scShares.nd rfl (Or.inl rfl)) (fun _ _ _ _ _ => pts_nil) (fun _ _ _ _ _ => pv 4)
        (fun _ _ _ _ _ => pe_call G2 hr2 (by rfl) g2 F2.kp b2 .nil pass0 (pa_cons (pe_dget hu (pv 2) (pv 4) (fun _ _ => rfl)) (pa_cons (pv 3) pa_nil))))))), ?_⟩
    have wf := good.wf
    have lB := wf.lb
    refine ⟨.ref n, rfl, .ref n, rfl, .ref pa, rfl, fun x dx nx ndx nex => ?_⟩
    have s1 : Same H (upd (upd H dx (.own x)) x (.ins CS dx [])) := fun y o e => by
      rw [upd_ne (ne_of_none e nx), upd_ne (ne_of_none e ndx)]; exact e
    refine ⟨x, dx, n, .ref pa, .non, B, Pp, Qp, [], rfl, upd_same, N.same s1, good, ⟨.inr ⟨pa, rfl, s1 pa _ hp⟩, ndp, by omega, fun y hy => ⟨(okp y hy).1, (okp y hy).2.1⟩⟩, ⟨.inl ⟨rfl, rfl⟩, List.nodup_nil, Nat.zero_le _, fun y hy => absurd hy List.not_mem_nil⟩, fun H2 SA W2 kp2 => ⟨rfl, ?_⟩⟩
    have s2 : Same H H2 := fun y o e => kp2 y o (s1 y o e) (ne_of_none e nx)
    obtain ⟨dx2, n2, d1, d2, hs, _, _, _⟩ := SA.at_
    have fF : Full B (fill B Qp) := fill_full _ _
    have ndF : (nms (fill B Qp)).Nodup := by rw [fF.nm]; exact wf.nb
    have lF : (fill B Qp).length ≤ 12 := by
      have : (nms (fill B Qp)).length = (nms B).length := by rw [fF.nm]
      rw [nms_len, nms_len] at this
      omega
    refine ⟨x, dx2, _, rfl, hs, sf_no, x, B, Pp, _, _, rfl, SA, ndF, lF, fun H3 wa s3 nwa hwa => ?_⟩
    have s03 := s2.trans s3
    have vF : ∀ z ∈ nms B, val0 (fill B Qp) z = val0 Qp z := fun z hz => val0_fill wf.nb hz
    have rng : ∀ z ∈ nms B, -(2 ^ 2000) ≤ val0 (fill B Qp) z ∧ val0 (fill B Qp) z ≤ 2 ^ 2000 := fun z hz => by
      rw [vF z hz]
      have p2 : (0 : Int) ≤ 2 ^ 2000 := by decide +kernel
      cases hg : getB Qp z with
      | none =>
        have : val0 Qp z = 0 := by unfold val0; rw [hg]; rfl
        omega
      | some v =>
        have h1 := (okp _ (getB_mem hg)).2
        have : val0 Qp z = v := by unfold val0; rw [hg]; rfl
        have h2 : 0 ≤ v ∧ v ≤ 2 ^ 2000 := h1
        omega
    refine ⟨n, wa, B, Pp, _, rfl, N.same s03, good, hwa, fF, rng, fun H4 t D tops d s4 nD ht hD tp => ?_⟩
    refine ⟨t, [.ref D, .int d], rfl, SqT.of ht, rfl, .ref D, [.int d], rfl, .int d, [], rfl, rfl, ?_⟩
    have s04 := s03.trans s4
    have nmM : nms (mapN (nms B) tops) = nms B := by unfold mapN; rw [nms_map]
    have nDH : H D = none := s03.free nD
    refine ⟨D, _, hD, trivial, fun od => ?_⟩
    refine ⟨.ref D, rfl, D, od, rfl, .inl ⟨_, upd_same, fun R nR => ?_⟩⟩
    refine frac_dc (B := mapN (nms B) tops) (g := fun z => frac (tops z) d) (by rw [nmM]; exact wf.nb) (by rw [← nms_len, nmM, nms_len]; exact lB) upd_same nR (fun z => rfl) (fun z => rfl) (fun z Ha Rr mz sa h => ?_) (fun Ha Fa sa => ?_)
    · rw [nmM] at mz
      have gz : getB (mapN (nms B) tops) z = some (tops z) := getB_map wf.nb mz
      have t0 := tp.t0 z mz
      have d0 := tp.d0
      have db := tp.db
      refine ⟨.ref D, rfl, .str z, rfl, D, .int (tops z), rfl, .inl ⟨_, Sum.inr z, .inr ⟨od, sa D _ upd_same⟩, rfl, by rw [valV_bk, gz]; rfl⟩, .int d, rfl, (tops z).toNat, d.toNat, by rw [Int.toNat_of_nonneg t0, Int.toNat_of_nonneg (by omega)]; rfl, by omega, by omega, fun H5 p s5 np hp5 => ?_⟩
      exact h H5 p s5 np hp5
    · obtain ⟨l1, s5⟩ := same_lock hD sa
      refine ⟨l1, ?_⟩
      have Fb := Fa.unlock l1
      rw [nmM] at Fb
      refine q _ R tops d (s04.trans s5) ?_ Fb ⟨tp.d0, tp.db, tp.t0, tp.tb, fun y y0 hy => tp.least y y0 fun z hz => by rw [vF z hz]; exact hy z hz, fun z hz => by rw [← vF z hz]; exact tp.ok z hz, fun e y e0 y0 hy => tp.far e y e0 y0 fun z hz => by rw [vF z hz]; exact hy z hz⟩
      have nRD : R ≠ D := fun e => by rw [e, upd_same] at nR; cases nR
      rw [upd_ne nRD] at nR
      exact s04.free nR
end
end Nl
end
section
set_option maxHeartbeats 4000000
namespace Nl
open PySem PySem.Spec PyProof.Rows L2 Nt
/-! ### Stand(..), shares(..) of tables with mixed keys -/
/-- a table that isn't let, and its first wrong key -/
inductive BadO (w : World) (K : PySem.W.Frag) (H : Hp) (B : Br) : V → V → Prop
  | non {t : V} (h : NonD H t) : BadO w K H B t .non
  | odd {a : Addr} {es : List Rw} {u : V} (h : Rl.OddD w H a es) (l : es.length ≤ 100) (rk : ∀ r ∈ es, RowK K H r) (e : (wrongs B es).take 1 = [u]) : BadO w K H B (.ref a) u
theorem BadO.same {w : World} {K : PySem.W.Frag} {H H' : Hp} {B : Br} {t u : V} (h : BadO w K H B t u) (s : Same H H') : BadO w K H' B t u := by
  cases h with
  | non h => exact .non (h.same s)
  | odd h l rk e => exact .odd (h.at_ (fun o e => s _ _ e) fun b x e => s b _ e) l (fun r m => (rk r m).same s) e
section
variable {P : Program} {w : World} {K : PySem.W.Frag} {mg : Str → Option Value} {base : Heap}
def spWrongB (w : World) (K : PySem.W.Frag) (C : Addr) : Sp := fun vs H Q _ => ∃ (n : Addr) (t u : V) (B : Br) (Pp : Pi), vs = [.ref n, t] ∧ NetAt C H n B Pp ∧ Good B Pp ∧ BadO w K H B t u ∧ ∀ H' p, Same H H' → H p = none → H' p = some (.lst [u]) → Q (.ref p) H'
theorem ok_wrongB {f C f1 f2 : Addr} {fd fd1 fd2 : FuncData} (F : Fun K "wrong_keys" "wrong_keys" sWrong f fd) (T : TxN K mg C)
    (m1 : Meth K C "has_pond" f1) (G1 : FnOk P w K mg base CX0 3 f1 fd1 ["self", "thing"] (spHasT K C)) (b1 : Binds K fd1 ["self", "thing"] [])
    (F2 : Fun K "is_whole" "is_whole" sWhole f2 fd2) (G2 : FnOk P w K mg base CX0 1 f2 fd2 ["thing", "least"] spWhole) (GX2 : FnOk P w K mg base CX0 1 f2 fd2 ["thing", "least"] (spWholeY K)) (b2 : Binds K fd2 ["thing", "least"] []) (g2 : mg "is_whole" = some (.ref f2))
    (mi : mg "isinstance" = none) (md : mg "dict" = none) : FnOk P w K mg base CX0 4 f fd ["net", "table"] (spWrongB w K C) := by
  have A := wrong_A (P := P) (w := w) (base := base) (f1 := f1) (f2 := f2) (fd1 := fd1) (fd2 := fd2) F T mi md
  have O := ok_wrongO (P := P) (w := w) (base := base) F T m1 G1 b1 F2 G2 GX2 b2 g2 mi md
  refine ⟨fun vs H Q E h => by obtain ⟨n, t, u, B, Pp, rfl, _⟩ := h; rfl, fun Ar outer s H args us vs Q E hr e0 hb r h => ?_⟩
  obtain ⟨n, t, u, B, Pp, rfl, N, good, bd, q⟩ := h
  cases bd with
  | non h => exact A.run Ar outer s H args us _ Q E hr e0 hb r ⟨n, t, rfl, h, q⟩
  | odd h l rk e => exact O.run Ar outer s H args us _ Q E hr e0 hb r ⟨n, _, B, Pp, _, rfl, N, good, h, l, rk, fun H' p s1 np hp => q H' p s1 np (by rw [hp, e])⟩
/-- the poured amounts are wrong, or they are right and the counts are wrong -/
def BadOs (w : World) (K : PySem.W.Frag) (H : Hp) (B : Br) (CP CU : Addr) (t u x : V) (X : Addr) : Prop := (BadO w K H B t x ∧ X = CP) ∨ ((∃ Qp, Tab H t B Qp) ∧ BadO w K H B u x ∧ X = CU)
theorem BadOs.same {w : World} {K : PySem.W.Frag} {H H' : Hp} {B : Br} {CP CU : Addr} {t u x : V} {X : Addr} (h : BadOs w K H B CP CU t u x X) (s : Same H H') : BadOs w K H' B CP CU t u x X :=
  h.imp (fun ⟨a, b⟩ => ⟨a.same s, b⟩) (fun ⟨⟨Qp, a⟩, b, c⟩ => ⟨⟨Qp, a.same s⟩, b.same s, c⟩)
def spSInitO (w : World) (K : PySem.W.Frag) (CS C CP CU : Addr) : Sp := fun vs H _ E => ∃ (st n : Addr) (t u x : V) (B : Br) (Pp : Pi) (X : Addr), vs = [.ref st, .ref n, t, u] ∧ NetAt C H n B Pp ∧ Good B Pp ∧ BadOs w K H B CP CU t u x X ∧
  ∀ (H' : Hp) (d : Addr), Same H H' → H d = none → H' d = some (.xd [("name", x)]) → E (.ref X) (some d) H'
theorem ok_sInitO {f CS C CP CU f1 fP fU cdP ccP cdU ccU : Addr} {fd fd1 fdP fdU : FuncData} (F : FunD K "__init__" "Stand.__init__" (defArgs mStand_init) (defBody mStand_init) (defScope mStand_init) [.non, .non] [] f fd)
    (F1 : Fun K "wrong_keys" "wrong_keys" sWrong f1 fd1) (G1 : FnOk P w K mg base CX0 4 f1 fd1 ["net", "table"] (spWrong C)) (GX1 : FnOk P w K mg base CX0 4 f1 fd1 ["net", "table"] (spWrongB w K C)) (b1 : Binds K fd1 ["net", "table"] []) (g1 : mg "wrong_keys" = some (.ref f1))
    (TP : Rl.SuX P K mg CP fP xBadPoured "BadPoured.__init__" fdP cdP ccP) (GP : FnOk P w K mg base CX0 1 fP fdP ["self", "name"] (spXNm CP)) (bP : Binds K fdP ["self", "name"] []) (gP : mg "BadPoured" = some (.ref CP))
    (TU : Rl.SuX P K mg CU fU xBadCount "BadCount.__init__" fdU cdU ccU) (GU : FnOk P w K mg base CX0 1 fU fdU ["self", "name"] (spXNm CU)) (bU : Binds K fdU ["self", "name"] []) (gU : mg "BadCount" = some (.ref CU)) :
    FnOk P w K mg base (L2.CX P w) 5 f fd ["self", "net", "poured", "counts"] (spSInitO w K CS C CP CU) := by
  have GJ := fnok_or G1 GX1
  refine F.ok scSInit (fun vs H Q E h => ?_) (fun cdv A outer s H vs Q E hr h => ?_)
  · obtain ⟨st, n, t, u, x, B, Pp, X, rfl, _⟩ := h
    rfl
  · obtain ⟨st, n, t, u, x, B, Pp, X, rfl, N, good, bad, q⟩ := h
    have hr2 := hr.mono (show 2 ≤ 4 by decide)
    refine ⟨_, (pss_cons (ps_set (i := 4) scSInit.nd rfl (.inl rfl) (pe_call GJ hr (by rfl) g1 F1.kp b1 .nil pass0 (pa_cons (pv 1) (pa_cons (pv 2) pa_nil))))
      (pss_cons (ps_if (pt_truth (pv 4) (by intro _; rfl)) (pss_one (ps_raise rfl (takes_of (E := E) rfl rfl rfl rfl) (pmk_oex TP.o TP.iC TP.tI GP hr2 bP .nil pass0 (by rfl) gP (pa_cons (pe_ix ix_list (pv 4) pe_int (fun _ _ => rfl)) pa_nil)))) pss_nil)
      (pss_cons (ps_set (i := 4) scSInit.nd rfl (.inl rfl) (pe_call GJ hr (by rfl) g1 F1.kp b1 .nil pass0 (pa_cons (pv 1) (pa_cons (pv 3) pa_nil))))
      (pss_cons (ps_if (pt_truth (pv 4) (by intro _; rfl)) (pss_one (ps_raise rfl (takes_of (E := E) rfl rfl rfl rfl) (pmk_oex TU.o TU.iC TU.tI GU hr2 bU .nil pass0 (by rfl) gU (pa_cons (pe_ix ix_list (pv 4) pe_int (fun _ _ => rfl)) pa_nil)))) pss_nil)
      Rl.pss_no)))), ?_⟩
    rcases bad with ⟨bt, rfl⟩ | ⟨⟨Qp, tp⟩, bu, rfl⟩
    · refine ⟨.ref n, rfl, t, rfl, .inr ⟨n, t, x, B, Pp, rfl, N, good, bt, fun H1 e s1 ne he => ?_⟩⟩
      refine ⟨.ref e, rfl, true, .inl ⟨[x], SqL.of he, rfl⟩, iteT ?_⟩
      refine ⟨.ref e, rfl, e, _, 0, x, rfl, rfl, SqL.of he, atI_nat (j := 0) rfl, ?_⟩
      refine ⟨by show 1 ≤ 1000; decide, fun a na => ⟨a, x, rfl, upd_same, fun dx nd ne2 => ⟨rfl, dx, [("name", x)], upd_same, ?_, ?_, ?_⟩⟩⟩
      · rw [upd_ne ne2, upd_same]
      · rw [upd_ne ne2] at nd
        exact nd
      · rw [upd_ne ne2] at nd
        exact q _ dx (s1.trans (xd_sameI na nd)) (s1.free nd) upd_same
    · refine ⟨.ref n, rfl, t, rfl, .inl ⟨n, t, B, Pp, Qp, rfl, N, good, tp, fun H1 e s1 ne he => ?_⟩⟩
      refine ⟨.ref e, rfl, false, .inl ⟨[], SqL.of he, rfl⟩, iteF ?_⟩
      refine ⟨.ref n, rfl, u, rfl, .inr ⟨n, u, x, B, Pp, rfl, N.same s1, good, bu.same s1, fun H2 e2 s2 ne2 he2 => ?_⟩⟩
      have s12 := s1.trans s2
      refine ⟨.ref e2, rfl, true, .inl ⟨[x], SqL.of he2, rfl⟩, iteT ?_⟩
      refine ⟨.ref e2, rfl, e2, _, 0, x, rfl, rfl, SqL.of he2, atI_nat (j := 0) rfl, ?_⟩
      refine ⟨by show 1 ≤ 1000; decide, fun a na => ⟨a, x, rfl, upd_same, fun dx nd ne2 => ⟨rfl, dx, [("name", x)], upd_same, ?_, ?_, ?_⟩⟩⟩
      · rw [upd_ne ne2, upd_same]
      · rw [upd_ne ne2] at nd
        exact nd
      · rw [upd_ne ne2] at nd
        exact q _ dx (s12.trans (xd_sameI na nd)) (s12.free nd) upd_same

def spSharesX (w : World) (K : PySem.W.Frag) (C CP : Addr) : Sp := fun vs H _ E => ∃ (n : Addr) (t x : V) (B : Br) (Pp : Pi), vs = [.ref n, t] ∧ NetAt C H n B Pp ∧ Good B Pp ∧ BadO w K H B t x ∧
  ∀ (H' : Hp) (d : Addr), Same H H' → H d = none → H' d = some (.xd [("name", x)]) → E (.ref CP) (some d) H'
theorem ok_sharesX {f f1 fSI CS C CP CU : Addr} {fd fd1 fdSI : FuncData} {dsS : List Value} (F : Fun K "shares" "shares" sShares f fd) (TS : TxS K mg CS)
    (MS : Mk K CS fSI) (GX : FnOk P w K mg base (L2.CX P w) 5 fSI fdSI ["self", "net", "poured", "counts"] (spSInitO w K CS C CP CU)) (bSI : Binds K fdSI ["self", "net", "poured", "counts"] dsS) (vSI : Vals [.non] dsS)
    (F1 : Fun K "least_tops" "least_tops" sLeast f1 fd1) (G1 : FnOk P w K mg base CX0 7 f1 fd1 ["net", "waters"] (spLeast C)) (b1 : Binds K fd1 ["net", "waters"] []) (g1 : mg "least_tops" = some (.ref f1))
    {f3 : Addr} {fd3 : FuncData} (m3 : Meth K CS "pours" f3) (G3 : FnOk P w K mg base CX0 1 f3 fd3 ["self"] (spPours CS C)) (b3 : Binds K fd3 ["self"] []) : FnOk P w K mg base (L2.CX P w) 8 f fd ["net", "poured"] (spSharesX w K C CP) := by
  refine F.okX scShares (fun vs H Q E h => ?_) (fun cdv A outer s H vs Q E hr h => ?_)
  · obtain ⟨n, t, x, B, Pp, rfl, _⟩ := h
    rfl
  · obtain ⟨n, t, x, B, Pp, rfl, N, good, bad, q⟩ := h
    have hr6 := hr.mono (show 6 ≤ 7 by decide)
    have hr1 := hr.mono (show 1 ≤ 7 by decide)
    refine ⟨_, pss_cons (ps_asg (pe_call G1 hr (by rfl) g1 F1.kp b1 .nil pass0 (pa_cons (pv 0) (pa_cons (pe_meth0 (pe_make MS GX hr6 (by rfl) TS.mgC bSI vSI (passes_call (takes_of (E := E) rfl rfl rfl rfl) fun _ _ _ _ h => h) (pa_cons (pv 0) (pa_cons (pv 1) pa_nil))) TS.cl m3 G3 hr1 b3 .nil pass0) pa_nil))) (pg_tup rfl (pgs_cons (pg_name (i := 2) scShares.nd rfl (by first | exact .inl rfl | exact .inr rfl)) (pgs_cons (pg_name (i := 3) scShares.nd rfl (by first | exact .inl rfl | exact .inr rfl)) pgs_nil)))) Rl.pss_no, ?_⟩
    refine ⟨.ref n, rfl, .ref n, rfl, t, rfl, fun x2 dx2 nx2 ndx2 nex2 => ?_⟩
    have s9 : Same H (upd (upd H dx2 (.own x2)) x2 (.ins CS dx2 [])) := fun y o e => by
      rw [upd_ne (ne_of_none e nx2), upd_ne (ne_of_none e ndx2)]; exact e
    exact ⟨x2, n, t, .non, x, B, Pp, CP, rfl, N.same s9, good, .inl ⟨bad.same s9, rfl⟩, fun H' d s' nd hd => q H' d (s9.trans s') (s9.free nd) hd⟩
end
end Nl
end
section
set_option maxHeartbeats 4000000
namespace Nl
open PySem PySem.Spec PyProof.Rows L2 Nt
/-- what a fraction without a common divisor has to do with its top and bottom -/
theorem frac_eq {t d : Int} (t0 : 0 ≤ t) (d0 : 0 < d) : ∃ g : Int, 0 < g ∧ t = (frac t d).1 * g ∧ d = (frac t d).2 * g ∧ 0 < (frac t d).2 ∧ 0 ≤ (frac t d).1 := by
  have g0 : 0 < Nat.gcd t.toNat d.toNat := Nat.gcd_pos_of_pos_right _ (by omega)
  refine ⟨(Nat.gcd t.toNat d.toNat : Nat), by omega, ?_, ?_, ?_, ?_⟩
  · unfold frac
    have := Nat.div_mul_cancel (Nat.gcd_dvd_left t.toNat d.toNat)
    have e : ((t.toNat / Nat.gcd t.toNat d.toNat * Nat.gcd t.toNat d.toNat : Nat) : Int) = (t.toNat : Int) := by rw [this]
    rw [Int.natCast_mul, Int.toNat_of_nonneg t0] at e
    exact e.symm
  · unfold frac
    have := Nat.div_mul_cancel (Nat.gcd_dvd_right t.toNat d.toNat)
    have e : ((d.toNat / Nat.gcd t.toNat d.toNat * Nat.gcd t.toNat d.toNat : Nat) : Int) = (d.toNat : Int) := by rw [this]
    rw [Int.natCast_mul, Int.toNat_of_nonneg (show 0 ≤ d by omega)] at e
    exact e.symm
  · unfold frac
    have : 0 < d.toNat / Nat.gcd t.toNat d.toNat := Nat.div_pos (Nat.le_of_dvd (by omega) (Nat.gcd_dvd_right _ _)) g0
    show (0 : Int) < ((d.toNat / Nat.gcd t.toNat d.toNat : Nat) : Int)
    omega
  · unfold frac
    exact Int.natCast_nonneg _
theorem frac_le {t d : Int} (t0 : 0 ≤ t) (d0 : 0 < d) : (frac t d).1 ≤ t ∧ (frac t d).2 ≤ d := by
  unfold frac
  have h1 := Nat.div_le_self t.toNat (Nat.gcd t.toNat d.toNat)
  have h2 := Nat.div_le_self d.toNat (Nat.gcd t.toNat d.toNat)
  show ((t.toNat / Nat.gcd t.toNat d.toNat : Nat) : Int) ≤ t ∧ ((d.toNat / Nat.gcd t.toNat d.toNat : Nat) : Int) ≤ d
  omega
theorem frac_ceil {t d : Int} (t0 : 0 ≤ t) (d0 : 0 < d) : -(-(frac t d).1 / (frac t d).2) = -(-t / d) := by
  obtain ⟨g, g0, e1, e2, _, _⟩ := frac_eq t0 d0
  generalize (frac t d).1 = a at *
  generalize (frac t d).2 = b at *
  rw [e1, e2, ← Int.neg_mul, Int.mul_ediv_mul_of_pos_left _ _ g0]
/-- more poured, no share less -/
theorem frac_mono {B : Br} {Pp : Pi} {W W2 tops tops2 : Str → Int} {d d2 : Int} {z : Str} (mz : z ∈ nms B) (tp : Tops B Pp W tops d) (tp2 : Tops B Pp W2 tops2 d2) (le : ∀ z ∈ nms B, W z ≤ W2 z) :
    (frac (tops z) d).1 * (frac (tops2 z) d2).2 ≤ (frac (tops2 z) d2).1 * (frac (tops z) d).2 := by
  have h := tp.far d2 tops2 (by have := tp2.d0; omega) tp2.t0 (fun x hx => Int.le_trans (Int.mul_le_mul_of_nonneg_left (by have := le x hx; omega) (by have := tp2.d0; omega)) (tp2.ok x hx)) z mz
  obtain ⟨g, g0, e1, e2, b0, a0⟩ := frac_eq (tp.t0 z mz) tp.d0
  obtain ⟨k, k0, f1, f2, c0, h0⟩ := frac_eq (tp2.t0 z mz) tp2.d0
  generalize (frac (tops z) d).1 = a at *
  generalize (frac (tops z) d).2 = b at *
  generalize (frac (tops2 z) d2).1 = a2 at *
  generalize (frac (tops2 z) d2).2 = b2 at *
  rw [e1, e2, f1, f2] at h
  have gk : 0 < g * k := Int.mul_pos g0 k0
  have h' : (a * b2) * (g * k) ≤ (a2 * b) * (g * k) := by
    have e3 : b2 * k * (a * g) = (a * b2) * (g * k) := by grind
    have e4 : b * g * (a2 * k) = (a2 * b) * (g * k) := by grind
    rw [← e3, ← e4]; exact h
  exact Int.le_of_mul_le_mul_right h' gk
end Nl
end
section
set_option maxHeartbeats 2000000
namespace Nl
open PySem PySem.Spec PyProof.Rows L2 Nt
theorem ins_le {l : List (Str × Int)} {y t : Str → Int} {M : Int} (h : ∀ p ∈ l, 0 ≤ p.2) (hy : ∀ x, y x ≤ M * t x) : (l.map fun p => p.2 * y p.1).sum ≤ M * (l.map fun p => p.2 * t p.1).sum := by
  induction l with
  | nil => simp
  | cons p r ih =>
    rw [List.map_cons, List.sum_cons, List.map_cons, List.sum_cons, Int.mul_add]
    have h1 := ih fun q hq => h q (List.mem_cons_of_mem _ hq)
    have h2 := Int.mul_le_mul_of_nonneg_left (hy p.1) (h p List.mem_cons_self)
    have h3 : p.2 * (M * t p.1) = M * (p.2 * t p.1) := by grind
    omega
theorem ins_mul {l : List (Str × Int)} {c t : Str → Int} {d S : Int} (h : ∀ p ∈ l, d * c p.1 = S * t p.1) : d * (l.map fun p => p.2 * c p.1).sum = S * (l.map fun p => p.2 * t p.1).sum := by
  induction l with
  | nil => simp
  | cons p r ih =>
    rw [List.map_cons, List.sum_cons, List.map_cons, List.sum_cons, Int.mul_add, Int.mul_add]
    have h1 := ih fun q hq => h q (List.mem_cons_of_mem _ hq)
    have h2 := h p List.mem_cons_self
    have h3 : d * (p.2 * c p.1) = p.2 * (d * c p.1) := by grind
    have h4 : S * (p.2 * t p.1) = p.2 * (S * t p.1) := by grind
    rw [h3, h4, h2, h1]
section
variable {B : Br} {Pp : Pi} {W tops : Str → Int} {d : Int}
theorem ins_pos (wf : Wf Nm B Pp) {z : Str} : ∀ p ∈ insOf Pp z, 0 ≤ p.2 ∧ p.1 ∈ nms B := fun p hp => by
  unfold insOf at hp
  obtain ⟨q, hq, e⟩ := List.mem_map.mp hp
  have := wf.rp q (List.mem_filter.mp hq).1
  subst e
  exact ⟨by have := this.2.2.2.1; show 0 ≤ q.2; omega, this.1⟩
theorem brim_rng (wf : Wf Nm B Pp) {z : Str} (hz : z ∈ nms B) : 1 ≤ val0 B z ∧ val0 B z ≤ 60 := by
  obtain ⟨b, hb⟩ := getB_some hz
  have := (wf.rb _ (getB_mem hb)).2
  have e : val0 B z = b := by unfold val0; rw [hb]; rfl
  rw [e]; exact this
/-- a pond with a share is just at its brim less one -/
theorem tops_tight (wf : Wf Nm B Pp) (tp : Tops B Pp W tops d) {z : Str} (hz : z ∈ nms B) (pos : 0 < tops z) : aY B Pp tops z = d * (W z - (val0 B z - 1)) := by
  refine Decidable.byContradiction fun ne => ?_
  have ge := tp.ok z hz
  have d0 := tp.d0
  obtain ⟨M1, _⟩ := brim_rng wf hz
  generalize hM : val0 B z = M at M1
  have key := tp.far (d * M) (fun x => M * tops x - if x = z then 1 else 0) (Int.mul_nonneg (by omega) (by omega)) (fun x hx => ?_) (fun x hx => ?_) z hz
  · simp only [if_pos] at key
    have e : d * (M * tops z - 1) = d * M * tops z - d := by grind
    rw [e] at key
    omega
  · have t0 := tp.t0 x hx
    have m0 : 0 ≤ M * tops x := Int.mul_nonneg (by omega) t0
    by_cases e : x = z
    · rw [if_pos e]
      subst e
      have : M * 1 ≤ M * tops x := Int.mul_le_mul_of_nonneg_left (by omega) (by omega)
      omega
    · rw [if_neg e]; omega
  · have le := ins_le (l := insOf Pp x) (y := fun x => M * tops x - if x = z then 1 else 0) (t := tops) (M := M) (fun p hp => (ins_pos wf p hp).1) (fun q => by
      show M * tops q - _ ≤ _
      split <;> omega)
    have okx := tp.ok x hx
    have okM := Int.mul_le_mul_of_nonneg_left okx (show 0 ≤ M by omega)
    have e1 : M * (d * (W x - (val0 B x - 1))) = d * M * (W x - (val0 B x - 1)) := by grind
    show d * M * (W x - (val0 B x - 1)) ≤ val0 B x * (M * tops x - if x = z then 1 else 0) - ((insOf Pp x).map fun p => p.2 * (M * tops p.1 - if p.1 = z then 1 else 0)).sum
    unfold aY at okM ge ne
    have e2 : M * (val0 B x * tops x - ((insOf Pp x).map fun p => p.2 * tops p.1).sum) = M * (val0 B x * tops x) - M * ((insOf Pp x).map fun p => p.2 * tops p.1).sum := by grind
    rw [e1, e2] at okM
    by_cases e : x = z
    · subst e
      rw [if_pos rfl]
      rw [hM] at ge ne okM ⊢
      have e3 : M * (M * tops x - 1) = M * (M * tops x) - M := by grind
      have g1 : d * (W x - (M - 1)) + 1 ≤ M * tops x - ((insOf Pp x).map fun p => p.2 * tops p.1).sum := by omega
      have g2 := Int.mul_le_mul_of_nonneg_left g1 (show 0 ≤ M by omega)
      have e4 : M * (d * (W x - (M - 1)) + 1) = d * M * (W x - (M - 1)) + M := by grind
      have e5 : M * (M * tops x - ((insOf Pp x).map fun p => p.2 * tops p.1).sum) = M * (M * tops x) - M * ((insOf Pp x).map fun p => p.2 * tops p.1).sum := by grind
      rw [e4, e5] at g2
      rw [e3]
      omega
    · rw [if_neg e, Int.sub_zero]
      have e3 : val0 B x * (M * tops x) = M * (val0 B x * tops x) := by grind
      rw [e3]
      omega
/-- counts of whole shares -/
theorem hold_ok (wf : Wf Nm B Pp) (tp : Tops B Pp W tops d) {S : Int} {c : Str → Int} (S0 : 0 < S) (hc : ∀ z ∈ nms B, d * c z = S * tops z) {z : Str} (hz : z ∈ nms B) :
    W z * S - aY B Pp c z ≤ (val0 B z - 1) * S ∧ (0 < c z → ¬ W z * S - aY B Pp c z < (val0 B z - 1) * S) := by
  have d0 := tp.d0
  have lin : d * aY B Pp c z = S * aY B Pp tops z := by
    unfold aY
    rw [Int.mul_sub, Int.mul_sub, ins_mul fun p hp => hc p.1 (ins_pos wf p hp).2]
    have e1 : d * (val0 B z * c z) = val0 B z * (d * c z) := by grind
    have e2 : S * (val0 B z * tops z) = val0 B z * (S * tops z) := by grind
    rw [e1, e2, hc z hz]
  generalize aY B Pp c z = a at lin ⊢
  have ok := tp.ok z hz
  constructor
  · have h1 := Int.mul_le_mul_of_nonneg_left ok (show 0 ≤ S by omega)
    rw [← lin] at h1
    have h2 : d * ((W z - (val0 B z - 1)) * S) ≤ d * a := by
      have e : d * ((W z - (val0 B z - 1)) * S) = S * (d * (W z - (val0 B z - 1))) := by grind
      rw [e]; exact h1
    have h3 := Int.le_of_mul_le_mul_left h2 d0
    have e : (W z - (val0 B z - 1)) * S = W z * S - (val0 B z - 1) * S := by grind
    omega
  · intro c0 lt
    have tz : 0 < tops z := by
      have h1 : 0 < d * c z := Int.mul_pos d0 c0
      rw [hc z hz] at h1
      rcases Int.lt_or_le 0 (tops z) with h | h
      · exact h
      · have := Int.mul_nonneg (show 0 ≤ S by omega) (show 0 ≤ -tops z by omega)
        have e : S * -tops z = -(S * tops z) := by grind
        omega
    have eq := tops_tight wf tp hz tz
    rw [eq] at lin
    have h2 : d * a = d * ((W z - (val0 B z - 1)) * S) := by
      have e : d * ((W z - (val0 B z - 1)) * S) = S * (d * (W z - (val0 B z - 1))) := by grind
      rw [e]; exact lin
    have h3 := Int.eq_of_mul_eq_mul_left (by omega) h2
    have e : (W z - (val0 B z - 1)) * S = W z * S - (val0 B z - 1) * S := by grind
    omega
end
/-! ### the common bottom -/
/-- lcm of the first bottoms -/
def lcms (l : List Nat) : Nat := l.foldl (fun s b => s * b / Nat.gcd s b) 1
theorem lcms_snoc (l : List Nat) (b : Nat) : lcms (l ++ [b]) = lcms l * b / Nat.gcd (lcms l) b := by unfold lcms; rw [List.foldl_append]; rfl
theorem lcms_go {D : Nat} : ∀ (l : List Nat) (s : Nat), s ∣ D → (∀ b ∈ l, b ∣ D) → l.foldl (fun s b => s * b / Nat.gcd s b) s ∣ D ∧ s ∣ l.foldl (fun s b => s * b / Nat.gcd s b) s ∧ ∀ b ∈ l, b ∣ l.foldl (fun s b => s * b / Nat.gcd s b) s
  | [], s, hs, _ => ⟨hs, Nat.dvd_refl _, fun b hb => absurd hb List.not_mem_nil⟩
  | b :: l, s, hs, h => by
    rw [List.foldl_cons]
    have e : s * b / Nat.gcd s b = Nat.lcm s b := rfl
    rw [e]
    obtain ⟨h1, h2, h3⟩ := lcms_go l (Nat.lcm s b) (Nat.lcm_dvd hs (h b List.mem_cons_self)) fun x hx => h x (List.mem_cons_of_mem _ hx)
    refine ⟨h1, Nat.dvd_trans (Nat.dvd_lcm_left _ _) h2, fun x hx => ?_⟩
    rcases List.mem_cons.mp hx with hx | hx
    · rw [hx]; exact Nat.dvd_trans (Nat.dvd_lcm_right _ _) h2
    · exact h3 x hx
theorem lcms_ok {D : Nat} (l : List Nat) (h : ∀ b ∈ l, b ∣ D) : lcms l ∣ D ∧ ∀ b ∈ l, b ∣ lcms l :=
  let ⟨a, _, c⟩ := lcms_go l 1 (Nat.one_dvd _) h
  ⟨a, c⟩
theorem frac_cop {t d : Int} (d0 : 0 < d) : Nat.gcd (frac t d).1.toNat (frac t d).2.toNat = 1 := by
  unfold frac
  show Nat.gcd (t.toNat / Nat.gcd t.toNat d.toNat : Nat) (d.toNat / Nat.gcd t.toNat d.toNat : Nat) = 1
  rw [Nat.gcd_div (Nat.gcd_dvd_left _ _) (Nat.gcd_dvd_right _ _)]
  exact Nat.div_self (Nat.gcd_pos_of_pos_right _ (by omega))
theorem frac_dvd {t d : Int} (d0 : 0 < d) : (frac t d).2.toNat ∣ d.toNat := by
  unfold frac
  show (d.toNat / Nat.gcd t.toNat d.toNat : Nat) ∣ d.toNat
  exact Nat.div_dvd_of_dvd (Nat.gcd_dvd_right _ _)
theorem frac_scale {t d : Int} {S : Nat} (t0 : 0 ≤ t) (d0 : 0 < d) (h : (frac t d).2.toNat ∣ S) : d * ((frac t d).1 * ((S : Int) / (frac t d).2)) = S * t := by
  obtain ⟨g, g0, e1, e2, b0, a0⟩ := frac_eq t0 d0
  obtain ⟨k, hk⟩ := h
  have hS : (S : Int) = (frac t d).2 * k := by
    rw [hk, Int.natCast_mul, Int.toNat_of_nonneg (by omega)]
  generalize (frac t d).1 = a at *
  generalize (frac t d).2 = b at *
  rw [hS, Int.mul_ediv_cancel_left _ (by omega), e1, e2]
  grind
end Nl
end
section
set_option maxHeartbeats 8000000
namespace Nl
open PySem PySem.Spec PyProof.Rows L2 Nt
def spLDiv : Sp := fun vs H Q _ => ∃ (a b : Nat), vs = [.int (a : Nat), .int (b : Nat)] ∧ ∀ H', Same H H' → Q (.int (Nat.gcd a b : Nat)) H'
def spIsShare : Sp := fun vs H Q _ => ∃ (t : Addr) (a b : Nat), vs = [.ref t] ∧ H t = some (.tup [.int (a : Nat), .int (b : Nat)]) ∧ 1 ≤ b ∧ Nat.gcd a b = 1 ∧ ∀ H', Same H H' → Q (.bl true) H'
section
variable {P : Program} {w : World} {K : PySem.W.Frag} {mg : Str → Option Value} {base : Heap}
theorem scLDiv : FnScope ["_law_one", "_law_other"] ["_law_one", "_law_other"] (defScope s_law_divisor) := ⟨rfl, rfl, rfl, by decide +kernel, rfl, by decide +kernel, by decide +kernel⟩
theorem ok_ldiv {f  C CS : Addr} {fd  : FuncData} (F : Fun K "_law_divisor" "_law_divisor" s_law_divisor f fd) (T : TxN K mg C) (TS : TxS K mg CS)
     : FnOk P w K mg base CX0 1 f fd ["_law_one", "_law_other"] spLDiv := by
  refine F.ok scLDiv (fun vs H Q E h => ?_) (fun cdv A outer s H vs Q E hr h => ?_)
  · obtain ⟨a, b, rfl, q⟩ := h
    rfl
  · obtain ⟨a, b, rfl, q⟩ := h
    refine ⟨_, (pss_cons (ps_while PassesOwn.never (pt_cmpR op_gt (pv 1) pe_int (nomark _))
        (pss_one (ps_par (i := 0) (j := 1) rfl scLDiv.nd rfl rfl (by decide) rfl rfl (pa_cons (pv 1) (pa_cons (pe_op op_mod (pv 0) (pv 1)) pa_nil)) (by rfl))))
      (pss_one (ps_ret (pv 0)))), ?_⟩
    refine ⟨fun m σ H2 => ∃ x y : Nat, σ = [some (.int (x : Nat)), some (.int (y : Nat))] ∧ Same H H2 ∧ Nat.gcd x y = Nat.gcd a b ∧ m = y, ⟨_, a, b, rfl, Same.refl _, rfl, rfl⟩, ?_⟩
    rintro m σ H2 ⟨x, y, rfl, sm, eg, rfl⟩
    refine ⟨.int (m : Nat), rfl, _, 0, rfl, rfl, _, rfl, ite2 (fun c => ?_) (fun c => ?_)⟩
    · have y0 : m ≠ 0 := fun e => by subst e; simp at c
      refine ⟨fun σ' H' => ∃ m', m' < m ∧ ∃ x y : Nat, σ' = [some (.int (x : Nat)), some (.int (y : Nat))] ∧ Same H H' ∧ Nat.gcd x y = Nat.gcd a b ∧ m' = y, fun σ' H' h => h, ?_⟩
      refine ⟨.int (m : Nat), rfl, .int (x : Nat), rfl, .int (m : Nat), rfl, _, _, rfl, rfl, (by show (0 : Int) < (m : Int); omega), _, _, rfl, ?_⟩
      refine ⟨x % m, Nat.mod_lt _ (by omega), m, x % m, rfl, sm, ?_, rfl⟩
      rw [← eg, Nat.gcd_comm x m, Nat.gcd_rec m x, Nat.gcd_comm]
    · have y0 : m = 0 := Decidable.byContradiction fun h => c (by simp; omega)
      subst y0
      rw [Nat.gcd_zero_right] at eg
      refine ⟨.int (x : Nat), rfl, ?_⟩
      rw [eg]
      exact q H2 sm
theorem scIsShare : FnScope ["_law_thing", "_law_one"] ["_law_thing"] (defScope s_law_is_share) := ⟨rfl, rfl, rfl, by decide +kernel, rfl, by decide +kernel, by decide +kernel⟩
theorem ok_isShare {f f_ldiv C CS : Addr} {fd fd_ldiv : FuncData} (F : Fun K "_law_is_share" "_law_is_share" s_law_is_share f fd) (T : TxN K mg C) (TS : TxS K mg CS)
    (F_ldiv : Fun K "_law_divisor" "_law_divisor" s_law_divisor f_ldiv fd_ldiv) (G_ldiv : FnOk P w K mg base CX0 1 f_ldiv fd_ldiv ["_law_one", "_law_other"] (spLDiv)) (b_ldiv : Binds K fd_ldiv ["_law_one", "_law_other"] []) (g_ldiv : mg "_law_divisor" = some (.ref f_ldiv))
    (x_all : mg "all" = none)
    (x_bool : mg "bool" = none)
    (x_int : mg "int" = none)
    (x_isinstance : mg "isinstance" = none)
    (x_len : mg "len" = none)
    (x_tuple : mg "tuple" = none) : FnOk P w K mg base CX0 2 f fd ["_law_thing"] spIsShare := by
  refine F.ok scIsShare (fun vs H Q E h => ?_) (fun cdv A outer s H vs Q E hr h => ?_)
  · obtain ⟨t, a, b, rfl, _⟩ := h
    rfl
  · obtain ⟨t, a, b, rfl, ht, b0, gc, q⟩ := h
    refine ⟨_, (pss_cons (ps_if (PW.pt (pw_or (pt_not (pt_val (pe_callB call_isi (by rfl) x_isinstance (by decide +kernel) (pa_cons (pv 0) (pa_cons (pe_bltn (v := .ty "tuple") (by rfl) x_tuple (by decide +kernel) rfl) pa_nil))))) (pw_or (pt_cmpR op_ne (pe_callB call_len_seq (by rfl) x_len PySem.boot_len (pa_cons (pv 0) pa_nil)) pe_int (nomark _)) (pw_or1 (pt_not (pt_val (pe_callB (cr_all rfl) (by rfl) x_all (by decide +kernel) (pa_cons (pe_lc (own := [("_law_one", 1)]) (g := gName 1) (tt := tYes) (te := (tCB (rIsi K) (tCons (tVar 1) (tCons (tC (.ty "int")) tNil)))) rfl scIsShare.nd (pi_tup (pv 0)) (blkOk_by (N := ["_law_thing", "_law_one"]) (sc := defScope s_law_is_share) (by decide +kernel)) (fun _ _ _ _ _ => (pg_name (i := 1) scIsShare.nd rfl (Or.inl rfl))) (fun _ _ _ _ _ => pts_nil) (fun _ _ _ _ _ => (pe_callB call_isi (by rfl) x_isinstance (by decide +kernel) (pa_cons (pv 1) (pa_cons (pe_bltn (v := .ty "int") (by rfl) x_int (by decide +kernel) rfl) pa_nil))))) pa_nil)))))))) (pss_one (ps_ret pe_bl)) pss_nil)
      (pss_cons (ps_if (PW.pt (pw_or (pt_val (pe_callB call_isi (by rfl) x_isinstance (by decide +kernel) (pa_cons (pe_ix ix_tup (pv 0) pe_int (fun _ _ => rfl)) (pa_cons (pe_bltn (v := .ty "bool") (by rfl) x_bool (by decide +kernel) rfl) pa_nil)))) (pw_or (pt_val (pe_callB call_isi (by rfl) x_isinstance (by decide +kernel) (pa_cons (pe_ix ix_tup (pv 0) pe_int (fun _ _ => rfl)) (pa_cons (pe_bltn (v := .ty "bool") (by rfl) x_bool (by decide +kernel) rfl) pa_nil)))) (pw_or (pt_cmpR op_lt (pe_ix ix_tup (pv 0) pe_int (fun _ _ => rfl)) pe_int (nomark _)) (pw_or1 (pt_cmpR op_lt (pe_ix ix_tup (pv 0) pe_int (fun _ _ => rfl)) pe_int (nomark _))))))) (pss_one (ps_ret pe_bl)) pss_nil)
      (pss_one (ps_ret (pe_cmpR op_eq (pe_call G_ldiv hr (by rfl) g_ldiv F_ldiv.kp b_ldiv .nil pass0 (pa_cons (pe_ix ix_tup (pv 0) pe_int (fun _ _ => rfl)) (pa_cons (pe_ix ix_tup (pv 0) pe_int (fun _ _ => rfl)) pa_nil))) pe_int (nomark _)))))), ?_⟩
    refine ⟨.ref t, rfl, .ref t, .ty "tuple", .type "tuple", .type "tuple", true, rfl, .ty _, .base (.tup ht), kit_ty (by decide +kernel), true, rfl, iteF ?_⟩
    refine ⟨.ref t, rfl, t, [.int (a : Nat), .int (b : Nat)], rfl, .inr (SqT.of ht), ?_⟩
    refine ⟨rfl, false, rfl, iteF ?_⟩
    refine ⟨.ref t, rfl, t, rfl, ⟨_, SqT.of ht⟩, fun D nD => ?_⟩
    refine lc_it (n := 2) (walk_tup (K := K) (a := t) (xs := [.int (a : Nat), .int (b : Nat)])) (fun i H2 => H2 D = some (.lst ((List.replicate i true).map V.bl)) ∧ Same H H2) ⟨upd_same, same_new nD⟩ (fun i H2 _ h => SqT.of (h.2 t _ ht)) ?_ ?_
    · rintro i x H2 H2' hi ⟨hD, sm⟩ ⟨rfl, hx⟩
      have ex : ∃ n : Nat, x = .int (n : Nat) := by
        rcases i with _ | _ | i
        · exact ⟨a, (Option.some.inj hx).symm⟩
        · exact ⟨b, (Option.some.inj hx).symm⟩
        · omega
      obtain ⟨n, rfl⟩ := ex
      refine ⟨rfl, .int (n : Nat), rfl, .int (n : Nat), .ty "int", .type "int", .type "int", true, rfl, .ty _, .base (.int _), kit_ty (by decide +kernel), _, hD, small1000 (by rw [List.length_map, List.length_replicate]; omega), ?_, ?_⟩
      · rw [upd_same, List.replicate_succ', List.map_append]; rfl
      · exact fun c o e => by rw [upd_ne (ne_of_none e nD)]; exact sm c o e
    · rintro H1 ⟨hD, sm⟩
      have ht1 := sm t _ ht
      refine ⟨D, [true, true], rfl, SqL.of hD, true, rfl, iteF ?_⟩
      refine ⟨.ref t, rfl, t, _, 0, .int (a : Nat), rfl, rfl, SqT.of ht1, rfl, .int (a : Nat), .ty "bool", .type "int", .type "bool", false, rfl, .ty _, .base (.int _), kit_ty (by decide +kernel), false, rfl, iteF ?_⟩
      refine ⟨.ref t, rfl, t, _, 1, .int (b : Nat), rfl, rfl, SqT.of ht1, rfl, .int (b : Nat), .ty "bool", .type "int", .type "bool", false, rfl, .ty _, .base (.int _), kit_ty (by decide +kernel), false, rfl, iteF ?_⟩
      refine ⟨.ref t, rfl, t, _, 0, .int (a : Nat), rfl, rfl, SqT.of ht1, rfl, _, 0, rfl, rfl, _, rfl, ?_⟩
      rw [decide_eq_false (show ¬ ((a : Nat) : Int) < 0 by omega)]
      refine iteF ⟨.ref t, rfl, t, _, 1, .int (b : Nat), rfl, rfl, SqT.of ht1, rfl, _, 1, rfl, rfl, _, rfl, ?_⟩
      rw [decide_eq_false (show ¬ ((b : Nat) : Int) < 1 by omega)]
      refine iteF ⟨.ref t, rfl, t, _, 0, .int (a : Nat), rfl, rfl, SqT.of ht1, rfl, .ref t, rfl, t, _, 1, .int (b : Nat), rfl, rfl, SqT.of ht1, rfl, ?_⟩
      refine ⟨a, b, rfl, fun H2 s2 => ?_⟩
      rw [gc]
      exact ⟨rfl, q H2 (sm.trans s2)⟩
end
end Nl
end
section
set_option maxHeartbeats 2000000
namespace Rl
open PySem PySem.Spec PyProof.Rows L2
/-! ### == of two dicts of ints, as it comes -/
theorem hits_ints {A : Around} {s : Shared} {kvs : List (Key × V)} {vb : List (Key × Value)} (rb : KV kvs vb) {ks : List (Key × V)} {va : List (Key × Value)} (ra : KV ks va) :
    (∀ p ∈ ks, ∃ i j : Int, p.2 = .int i ∧ valV kvs p.1 = some (.int j)) → PySem.W.KeqHits A s vb va (ks.all fun p => decide (valV kvs p.1 = some p.2)) := by
  unfold KV at ra
  induction ra with
  | nil => intro _; exact .nil
  | @cons p q ps qs h t ih =>
    intro hp
    obtain ⟨h1, h2⟩ := h
    obtain ⟨i, j, ei, ej⟩ := hp p List.mem_cons_self
    have rr : RelO (some (V.int j)) (valueAt vb p.1) := by rw [← ej]; exact rb.val p.1
    obtain ⟨y, hy, ry⟩ := rr.some_of
    obtain ⟨k, v⟩ := q
    have h1' : p.1 = k := h1
    rw [h1'] at hy
    rw [ei] at h2
    obtain ⟨t1, e1⟩ := h2
    obtain ⟨t2, e2⟩ := ry
    subst e2
    have e1' : v = Value.int i t1 := e1
    subst e1'
    have eb : decide (valV kvs p.1 = some p.2) = (i == j) := by
      rw [ej, ei]
      by_cases c : i = j
      · subst c; simp
      · rw [decide_eq_false (fun z => c (by injection z with z; injection z with z; exact z.symm))]
        simp [c]
    rw [List.all_cons, eb]
    exact .hit hy (SeqAt.EqAt.int_int i t1 j t2) (ih fun p' hm => hp p' (List.mem_cons_of_mem _ hm))
section
variable {X : Cx}
def rEqI : R2 := fun x y H Q => ∃ a b ks ls, x = .ref a ∧ y = .ref b ∧ H a = some (.dK ks) ∧ H b = some (.dK ls) ∧ ks.length = ls.length ∧ (∀ p ∈ ks, ∃ i j : Int, p.2 = .int i ∧ valV ls p.1 = some (.int j)) ∧ Q (.bl (ks.all fun p => decide (valV ls p.1 = some p.2))) H
theorem op_eqI (hu : X.A.units < cLine) : OpR X (compareOp .Eq) rEqI := by
  intro pins s σ H x y v u Q I rx ry h
  obtain ⟨a, b, ks, ls, rfl, rfl, ea, eb, hlen, hp, q⟩ := h
  obtain rfl : v = Value.ref a := rx
  obtain rfl : u = Value.ref b := ry
  obtain ⟨_, ya, va, ra, da⟩ := (show ObjOk X.prog X.w H s.heap a (.dK ks) from I.hok a _ ea)
  obtain ⟨_, yb, vb, rb, db⟩ := (show ObjOk X.prog X.w H s.heap b (.dK ls) from I.hok b _ eb)
  have hl : va.length = vb.length := by rw [← ra.length, ← rb.length]; exact hlen
  exact PySem.W.keq_eq (knd := mixKind X.prog X.w) ya yb da db hu (fun _ => hits_ints rb ra hp) (fin_bl I q (by simp [hl]))
/-! ### xs[::2] -/
theorem range_lt (k m : Nat) : ((List.range m).map fun (i : Nat) => (0 + (k : Int) * (i : Int)).toNat).Pairwise (fun a b => a < b) ∨ k = 0 := by
  by_cases h : k = 0
  · exact .inr h
  · left
    rw [List.pairwise_map]
    refine List.pairwise_lt_range.imp fun {a b} hab => ?_
    have : (k : Int) * (a : Int) < (k : Int) * (b : Int) := Int.mul_lt_mul_of_pos_left (by omega) (by omega)
    have h0 : 0 ≤ (k : Int) * (a : Int) := Int.mul_nonneg (by omega) (by omega)
    omega
/-- places of a list that rise: a part of it -/
theorem pick_sub {α : Type} : ∀ (xs : List α) (R : List Nat) (o : Nat), R.Pairwise (fun a b => a < b) → (∀ r ∈ R, o ≤ r) → (R.filterMap fun r => xs[r - o]?).Sublist xs
  | [], R, o, _, _ => by
    have : (R.filterMap fun r => ([] : List α)[r - o]?) = [] := by
      induction R with
      | nil => rfl
      | cons r R ih => simp
    rw [this]; exact List.Sublist.slnil
  | x :: xs, [], o, _, _ => by simp
  | x :: xs, r :: R, o, hp, hr => by
    rw [List.pairwise_cons] at hp
    have key : ∀ R' : List Nat, (∀ r ∈ R', o + 1 ≤ r) → (R'.filterMap fun r => (x :: xs)[r - o]?) = R'.filterMap fun r => xs[r - (o + 1)]? := fun R' h => by
      induction R' with
      | nil => rfl
      | cons q R' ih =>
        have e1 := ih fun r hr' => h r (List.mem_cons_of_mem _ hr')
        have h1 := h q List.mem_cons_self
        have e2 : (x :: xs)[q - o]? = xs[q - (o + 1)]? := by rw [show q - o = (q - (o + 1)) + 1 by omega, List.getElem?_cons_succ]
        simp only [List.filterMap_cons]
        rw [e1, e2]
    by_cases e : r = o
    · subst e
      rw [List.filterMap_cons_some (b := x) (by simp)]
      have hR : ∀ q ∈ R, r + 1 ≤ q := fun q hq => hp.1 q hq
      rw [key R hR]
      exact (pick_sub xs R (r + 1) hp.2 hR).cons_cons x
    · have hR : ∀ q ∈ r :: R, o + 1 ≤ q := fun q hq => by
        rcases List.mem_cons.mp hq with h | h
        · subst h; have := hr q List.mem_cons_self; omega
        · have := hp.1 q h; have := hr r List.mem_cons_self; omega
      rw [key (r :: R) hR]
      exact (pick_sub xs (r :: R) (o + 1) (by rw [List.pairwise_cons]; exact hp) hR).cons x
def tStepL (K : PySem.W.Frag) (te : TE) : TE := fun σ H Q => te σ H fun x H1 => ∃ a xs, x = .ref a ∧ SqL K H1 a xs ∧ ∀ p ys, H1 p = none → ys.Sublist xs → Q (.ref p) (upd H1 p (.lst ys))
theorem vals_atR : ∀ {xs : List V} {its : List Value}, Vals xs its → ∀ {i : Nat} {v : V}, xs[i]? = some v → ∃ u, its[i]? = some u ∧ RelV v u
  | _, _, .nil, i, v, h => by simp at h
  | _, _, .cons r t, 0, v, h => by
    have e := Option.some.inj (show some _ = some v from h)
    subst e
    exact ⟨_, rfl, r⟩
  | _, _, .cons r t, i + 1, v, h => vals_atR t (show _ = some v from h)
theorem vals_pick {xs : List V} {its : List Value} (r : Vals xs its) (R : List Nat) : Vals (R.filterMap fun i => xs[i]?) (R.filterMap fun i => its[i]?) := by
  induction R with
  | nil => exact .nil
  | cons i R ih =>
    cases e : xs[i]? with
    | none =>
      have e2 : its[i]? = none := by
        rw [List.getElem?_eq_none_iff] at e ⊢
        rw [← r.length]; exact e
      rw [List.filterMap_cons_none e, List.filterMap_cons_none e2]
      exact ih
    | some v =>
      obtain ⟨u, e2, rv⟩ := vals_atR r e
      rw [List.filterMap_cons_some e, List.filterMap_cons_some e2]
      exact .cons rv ih
theorem pe_step2 {e : Expr} {te : TE} {k : Nat} {p1 p3 pos : Pos} (he : PE X e te) : PE X (.Subscript e (.Slice none none (some (.Constant (.int 2) k p1)) p3) pos) (tStepL X.K te) := by
  refine ⟨fun pins s σ H Q I h => ?_⟩
  refine Subscript_ (thn (he.run pins s σ H _ I h) fun v s1 ⟨x, H1, I1, r1, q1⟩ => ?_)
  obtain ⟨a, xs, ex, hx, q⟩ := q1
  subst ex
  cases r1
  have hst : PO X (some (.Constant (.int 2) k p1)) (tPart (tC (.int 2))) := po_some pe_int
  refine wpAny_Slice (thn (po_none.run pins s1 σ H1 (fun o H2 => o = none ∧ H2 = H1) I1 ⟨rfl, rfl⟩) fun vl s2 ⟨l, H2, I2, pl, el, e2⟩ => ?_)
  subst el e2
  refine thn (po_none.run pins s2 σ H2 (fun o H3 => o = none ∧ H3 = H2) I2 ⟨rfl, rfl⟩) fun vu s3 ⟨u, H3, I3, pu, eu, e3⟩ => ?_
  subst eu e3
  refine thn (hst.run pins s3 σ H3 (fun o H4 => o = some 2 ∧ H4 = H3) I3 ⟨2, rfl, rfl, rfl⟩) fun vs s4 ⟨o, H4, I4, ps, eo, e4⟩ => ?_
  subst eo e4
  have I5 : Inv X pins σ H4 { s4 with heap := s4.heap.push { cls := .type "slice", data := .fields #[vl, vu, vs] } } := I4.kept (t' := s4.toks) fun b ob q => Heap.get?_push_of_some _ q
  obtain ⟨its, r, ht, hz⟩ := I5.list hx
  have hlen := r.length
  show wpAny (model X.prog X.w) X.A (subscriptTail e (.Slice none none (some (.Constant (.int 2) k p1)) p3) (.ref a) (.ref s4.heap.objs.size)) (EP X pins σ Q) X.xe { s4 with heap := s4.heap.push { cls := .type "slice", data := .fields #[vl, vu, vs] } }
  refine tail_any (ops := [.ref a, .ref s4.heap.objs.size]) ht.isList.typeIs (PySem.slot_list_getitem.lookup) ?_ (by with_unfolding_all rfl)
  refine wpAny_getItem_list_slice ht.isList (Heap.IsSliceOf.new _ vl vu vs) pl pu ps (by decide) ?_ (by rw [List.size_toArray]; omega)
  obtain ⟨R, hR⟩ : ∃ R, R = sliceRange (sliceBounds none none (some 2) its.toArray.size).1 (sliceBounds none none (some 2) its.toArray.size).2.1 (sliceBounds none none (some 2) its.toArray.size).2.2 := ⟨_, rfl⟩
  have eP : slicePick its.toArray none none (some 2) = (R.filterMap fun i => its[i]?).toArray := by
    unfold slicePick
    rw [← hR]
    congr 2
    funext i
    simp
  have pR : R.Pairwise (fun a b => a < b) := by
    rw [hR]
    unfold sliceRange
    rcases range_lt 2 (if (2 : Int) > 0 then (if (0 : Int) < (its.toArray.size : Int) then ((its.toArray.size : Int) - 0 + 2 - 1) / 2 else 0) else (if (0 : Int) > (its.toArray.size : Int) then (0 - (its.toArray.size : Int) - 2 - 1) / (-2) else 0)).toNat with h | h
    · exact h
    · cases h
  have sb : (R.filterMap fun i => xs[i]?).Sublist xs := by
    have := pick_sub xs R 0 pR (fun _ _ => Nat.zero_le _)
    simpa using this
  rw [eP]
  refine ⟨.ref _, _, I5.laid (t' := s4.toks) (o := .lst (R.filterMap fun i => xs[i]?)) (fun b ob q => Heap.get?_push_of_some _ q) (Nat.le_refl _) ?_, rfl, q _ _ (I5.hok.fresh (Nat.le_refl _)) sb⟩
  exact ⟨Nat.le_trans sb.length_le hz, _, 0, vals_pick r R, Heap.get?_push_size _ rfl⟩
end
end Rl
end
section
set_option maxHeartbeats 2000000
namespace Rl
open PySem PySem.Spec PyProof.Rows L2
section
variable {X : Cx}
/-- != and == of a dict, whatever it holds, and the empty one -/
def rNeE : R2 := fun x y H Q => ∃ a b ks, x = .ref a ∧ y = .ref b ∧ H a = some (.dK ks) ∧ H b = some (.dK []) ∧ Q (.bl (!ks.isEmpty)) H
theorem op_neE (hu : X.A.units < cLine) : OpR X (compareOp .NotEq) rNeE := by
  intro pins s σ H x y v u Q I rx ry h
  obtain ⟨a, b, ks, rfl, rfl, ea, eb, q⟩ := h
  obtain rfl : v = Value.ref a := rx
  obtain rfl : u = Value.ref b := ry
  obtain ⟨_, ya, va, ra, da⟩ := (show ObjOk X.prog X.w H s.heap a (.dK ks) from I.hok a _ ea)
  obtain ⟨_, yb, vb, rb, db⟩ := (show ObjOk X.prog X.w H s.heap b (.dK []) from I.hok b _ eb)
  have lb : vb = [] := by cases rb; rfl
  have la : va.length = ks.length := ra.length.symm
  subst lb
  exact PySem.W.keq_ne (knd := mixKind X.prog X.w) (r := true) ya yb da db hu (fun e => by
    cases va with
    | nil => exact .nil
    | cons x r => cases e) (fin_bl I q (by
    cases ks with
    | nil => cases va with
      | nil => rfl
      | cons x r => cases la
    | cons y t => cases va with
      | nil => cases la
      | cons x r => rfl))
def rEqE : R2 := fun x y H Q => ∃ a b ks, x = .ref a ∧ y = .ref b ∧ H a = some (.dK ks) ∧ H b = some (.dK []) ∧ Q (.bl ks.isEmpty) H
theorem op_eqE (hu : X.A.units < cLine) : OpR X (compareOp .Eq) rEqE := by
  intro pins s σ H x y v u Q I rx ry h
  obtain ⟨a, b, ks, rfl, rfl, ea, eb, q⟩ := h
  obtain rfl : v = Value.ref a := rx
  obtain rfl : u = Value.ref b := ry
  obtain ⟨_, ya, va, ra, da⟩ := (show ObjOk X.prog X.w H s.heap a (.dK ks) from I.hok a _ ea)
  obtain ⟨_, yb, vb, rb, db⟩ := (show ObjOk X.prog X.w H s.heap b (.dK []) from I.hok b _ eb)
  have lb : vb = [] := by cases rb; rfl
  have la : va.length = ks.length := ra.length.symm
  subst lb
  exact PySem.W.keq_eq (knd := mixKind X.prog X.w) (r := true) ya yb da db hu (fun e => by
    cases va with
    | nil => exact .nil
    | cons x r => cases e) (fin_bl I q (by
    cases ks with
    | nil => cases va with
      | nil => rfl
      | cons x r => cases la
    | cons y t => cases va with
      | nil => cases la
      | cons x r => rfl))
end
end Rl
end
section
set_option maxHeartbeats 4000000
/-! repr, and {..!r}, of dicts of ints by names or by pairs of names -/
namespace Rl
open PySem PySem.Spec PyProof.Rows L2 Nl Nt
def dN (B : Br) : PyData := .dict (B.map fun x => (.str x.1, .int x.2))
def dP (Pp : Pi) : PyData := .dict (Pp.map fun p => (.tuple [.str p.1.1, .str p.1.2], .int p.2))
section
variable {X : Cx} {pins : List (Addr × Obj)} {σ : List (Option V)} {H : Hp} {s : Shared} {a : Addr}
theorem readsAll_strs2 {h : Heap} {l : List Value} {x y : Str} {as : List Addr} (r : ReadsAll h l [.str x, .str y] as) : as = [] := by
  cases r with
  | cons r1 r2 =>
    cases r1
    cases r2 with
    | cons r3 r4 =>
      cases r3
      cases r4
      rfl
theorem reads_strs2 {h : Heap} {q : Addr} {x y : Str} {as : List Addr} (r : Reads h (.ref q) (.tuple [.str x, .str y]) as) : as = [] := by
  cases r with
  | tuple h1 h2 h3 h4 => exact readsAll_strs2 h4
theorem keys_bkR {h : Heap} {P : Program} {w : World} : ∀ {B : Br} {es : List DictEntry} {vs : List (Key × Value)}, KV (bk B) vs → Pairs (mixKind P w) es vs → ReadsAll h (es.map (·.key)) (B.map fun x => PyData.str x.1) [] ∧ ReadsAll h (es.map (·.val)) (B.map fun x => PyData.int x.2) []
  | [], es, vs, k, p => by
    cases k
    cases p
    exact ⟨.nil, .nil⟩
  | x :: B, es, vs, k, p => by
    cases k with
    | cons k1 k2 =>
      cases p with
      | cons p1 p2 p3 =>
        obtain ⟨h1, h2⟩ := keys_bkR (h := h) k2 p3
        obtain ⟨e1, e2⟩ := k1
        have e1' := e1
        rw [← e1] at p1
        rcases keyIs_shape (show keyIs (Sum.inr x.1) _ = true from p1) with ⟨i, t, q1, q2⟩ | ⟨z, t, q1, q2⟩
        · cases q1
        · cases q1
          obtain ⟨t2, q3⟩ := e2
          rw [← p2] at q3
          constructor
          · show ReadsAll h (_ :: _) (_ :: _) _
            dsimp only
            rw [q2]
            exact ReadsAll.cons (as := []) (bs := []) (.str _ _) h1
          · show ReadsAll h (_ :: _) (_ :: _) _
            dsimp only
            rw [q3]
            exact ReadsAll.cons (as := []) (bs := []) (.int _ _) h2
theorem reads_dN {B : Br} (I : Inv X pins σ H s) (ha : H a = some (.dK (bk B))) : ∃ as, Reads s.heap (.ref a) (dN B) as ∧ sysModules ∉ as := by
  obtain ⟨_, lo, vs, kv, o, es, ep, h1, h2, h3, h4, h5, h6⟩ := I.hok a _ ha
  obtain ⟨r1, r2⟩ := keys_bkR (h := s.heap) kv h5
  have r1' : ReadsAll s.heap (es.toList.map (·.key)) ((B.map fun x => (PyData.str x.1, PyData.int x.2)).map (·.1)) [] := by rw [List.map_map]; exact r1
  have r2' : ReadsAll s.heap (es.toList.map (·.val)) ((B.map fun x => (PyData.str x.1, PyData.int x.2)).map (·.2)) [] := by rw [List.map_map]; exact r2
  refine ⟨_, .dict h1 h2.1 h3 r1' r2', fun hm => ?_⟩
  have : sysModules = a := by simpa using hm
  rw [this] at lo
  simp at lo
theorem keys_ptR (I : Inv X pins σ H s) : ∀ {Pp : Pi} {xs : List (List Key × Addr × Value)}, Paired (fun (p : List Key × V) (q : List Key × Addr × Value) => p.1 = q.1 ∧ H q.2.1 = some (.tup (p.1.map kV)) ∧ L2.RelV p.2 q.2.2) (pt Pp) xs →
    ReadsAll s.heap (xs.map fun q => Value.ref q.2.1) (Pp.map fun p => PyData.tuple [.str p.1.1, .str p.1.2]) [] ∧ ReadsAll s.heap (xs.map fun q => q.2.2) (Pp.map fun p => PyData.int p.2) []
  | [], xs, k => by
    cases k
    exact ⟨.nil, .nil⟩
  | p :: Pp, xs, k => by
    cases k with
    | @cons _ q _ _ k1 k2 =>
      obtain ⟨h1, h2⟩ := keys_ptR I k2
      obtain ⟨e1, e2, e3⟩ := k1
      have e2' : H q.2.1 = some (.tup [.str p.1.1, .str p.1.2]) := e2
      obtain ⟨as, rd⟩ := Dp.reads I (.tuple [.str p.1.1, .str p.1.2]) (.ref q.2.1) (.ref q.2.1) (Dp.tup (SqT.of e2') (.cons (.str _) (.cons (.str _) .nil))) rfl
      have ea := reads_strs2 rd
      subst ea
      obtain ⟨t2, q3⟩ := e3
      constructor
      · show ReadsAll s.heap (_ :: _) (_ :: _) _
        exact ReadsAll.cons (as := []) (bs := []) rd h1
      · show ReadsAll s.heap (_ :: _) (_ :: _) _
        dsimp only
        rw [q3]
        exact ReadsAll.cons (as := []) (bs := []) (.int _ _) h2
theorem reads_dP {Pp : Pi} (I : Inv X pins σ H s) (ha : H a = some (.dT (pt Pp))) : ∃ as, Reads s.heap (.ref a) (dP Pp) as ∧ sysModules ∉ as := by
  obtain ⟨_, lo, xs, kv, o, es, ep, h1, h2, h3, h4, h5⟩ := I.hok a _ ha
  obtain ⟨r1, r2⟩ := keys_ptR I kv
  have r1' : ReadsAll s.heap (es.toList.map (·.key)) ((Pp.map fun p => (PyData.tuple [.str p.1.1, .str p.1.2], PyData.int p.2)).map (·.1)) [] := by rw [h4, List.map_map, List.map_map]; exact r1
  have r2' : ReadsAll s.heap (es.toList.map (·.val)) ((Pp.map fun p => (PyData.tuple [.str p.1.1, .str p.1.2], PyData.int p.2)).map (·.2)) [] := by rw [h4, List.map_map, List.map_map]; exact r2
  refine ⟨_, .dict h1 h2.1 h3 r1' r2', fun hm => ?_⟩
  have : sysModules = a := by simpa using hm
  rw [this] at lo
  simp at lo
/-- a dict of ints by names or pairs, as a text -/
def DcR (H : Hp) (a : Addr) (d : PyData) : Prop := (∃ B, H a = some (.dK (bk B)) ∧ d = dN B) ∨ ∃ Pp, H a = some (.dT (pt Pp)) ∧ d = dP Pp
theorem DcR.reads {d : PyData} (I : Inv X pins σ H s) (h : DcR H a d) : ∃ as, Reads s.heap (.ref a) d as ∧ sysModules ∉ as := by
  rcases h with ⟨B, h, rfl⟩ | ⟨Pp, h, rfl⟩
  · exact reads_dN I h
  · exact reads_dP I h
/-- {x!r} of such a dict -/
def tFmtRD (te : TE) : TE := fun σ H Q => te σ H fun x H1 => ∃ a d, x = .ref a ∧ DcR H1 a d ∧ d.showable = true ∧ d.depth ≤ 60 ∧ d.shown.length ≤ sizeLine ∧ Q (.str d.shown) H1
theorem pe_fmtRD {e : Expr} {te : TE} {pos : Pos} (hg : X.A.guards = some []) (hu : X.A.units + 64 < cLine) (he : PE X e te) : PE X (.FormattedValue e 114 none pos) (tFmtRD te) := by
  refine ⟨fun pins s σ H Q I h => ?_⟩
  refine wpAny_FormattedValue_repr (thn (he.run pins s σ H _ I h) fun v s1 hv => ?_)
  obtain ⟨x, H1, I1, r1, b, d, rfl, hd, hs, dp, hz, q⟩ := hv
  cases r1
  obtain ⟨as, rd, nm⟩ := hd.reads I1
  exact pyReprObj_of_reads rd hs (fun _ => nm) hg (by omega) (fun _ _ z => z) (fun h' u tk kk => wpAny_formatField_str ⟨.str d.shown, H1, I1.kept kk, ⟨_, rfl⟩, q⟩ ⟨.str d.shown, H1, (I1.kept kk).tok _, ⟨_, rfl⟩, q⟩ hz) hz
/-- repr of such a dict -/
def rReprD : List V → Hp → VK → Prop := fun xs H Q => ∃ (a : Addr) (d : PyData), xs = [.ref a] ∧ DcR H a d ∧ d.showable = true ∧ d.depth ≤ 60 ∧ d.shown.length ≤ sizeLine ∧ Q (.str d.shown) H
theorem call_reprD (hg : X.A.guards = some []) (hu : X.A.units + 64 < cLine) : CallR X (.builtin "repr") rReprD := by
  intro pins s σ H xs us Q I r h
  obtain ⟨a, d, rfl, hd, hs, dp, hz, q⟩ := h
  cases r with
  | cons r1 rn =>
    cases rn
    cases r1
    obtain ⟨as, rd, nm⟩ := hd.reads I
    exact repr_of_reads' rd hs (fun _ => nm) hg (by omega) (fun _ _ z => z) (fun h' u tk kk => ⟨.str d.shown, H, I.kept kk, ⟨_, rfl⟩, q⟩) hz
end
end Rl
end
section
set_option maxHeartbeats 4000000
/-! repr of a list of scalars, lists of texts and dicts of ints by names -/
namespace Rl
open PySem PySem.Spec PyProof.Rows L2 Nl Nt
/-- the table of the modules is among what the head left -/
def SysK (K : PySem.W.Frag) : Prop := (List.lookup sysModules K).isSome = true
inductive Itm (H : Hp) : V → PyData → Prop
  | non : Itm H .non .none
  | int (i : Int) : Itm H (.int i) (.int i)
  | str (z : Str) : Itm H (.str z) (.str z)
  | lst {a : Addr} {L : List Str} : H a = some (.lst (L.map V.str)) → Itm H (.ref a) (.list (L.map PyData.str))
  | dic {a : Addr} {B : Br} : H a = some (.dK (bk B)) → Itm H (.ref a) (dN B)
section
variable {X : Cx} {pins : List (Addr × Obj)} {σ : List (Option V)} {H : Hp} {s : Shared} {a : Addr}
theorem sys_none (I : Inv X pins σ H s) (hx : X.ex = []) (k : SysK X.K) : H sysModules = none := by
  obtain ⟨o', h2⟩ := Option.isSome_iff_exists.mp k
  obtain ⟨b1, b2⟩ := I.ok.bs _ _ (I.ok.mod.kin _ _ h2)
  exact I.base.free _ _ b1 b2 (by rw [hx]; simp)
theorem readsAll_strsV {h : Heap} : ∀ {L : List Str} {its : List Value}, Vals (L.map V.str) its → ReadsAll h its (L.map PyData.str) []
  | [], [], _ => .nil
  | z :: L, u :: its, h' => by
    cases h' with
    | cons r t =>
      obtain ⟨tk, rfl⟩ := r
      exact ReadsAll.cons (as := []) (bs := []) (.str _ _) (readsAll_strsV t)
  | [], _ :: _, h' => by cases h'
  | _ :: _, [], h' => by cases h'
theorem Itm.reads (I : Inv X pins σ H s) (n : H sysModules = none) {v : V} {u : Value} {d : PyData} (h : Itm H v d) (r : L2.RelV v u) : ∃ as, Reads s.heap u d as ∧ sysModules ∉ as := by
  cases h with
  | non => cases r; exact ⟨_, .none, by simp⟩
  | int i => obtain ⟨tk, rfl⟩ := r; exact ⟨_, .int _ _, by simp⟩
  | str z => obtain ⟨tk, rfl⟩ := r; exact ⟨_, .str _ _, by simp⟩
  | @lst a L ha =>
    cases r
    obtain ⟨its, rv, ⟨o, m, ho, hc, hd, hdt⟩, hlen⟩ := I.list (SqL.of (K := X.K) ha)
    refine ⟨_, .list ho hc hdt (by simpa using readsAll_strsV rv), fun hm => ?_⟩
    have e : sysModules = a := by simpa using hm
    rw [e, ha] at n; cases n
  | @dic a B ha =>
    cases r
    exact reads_dN I ha
theorem itms_reads (I : Inv X pins σ H s) (n : H sysModules = none) : ∀ {xs : List V} {ds : List PyData} {its : List Value}, Paired (Itm H) xs ds → Vals xs its → ∃ as, ReadsAll s.heap its ds as ∧ sysModules ∉ as
  | [], [], [], _, _ => ⟨[], .nil, by simp⟩
  | x :: xs, ds, u :: its, k, r => by
    cases k with
    | cons k1 k2 =>
      cases r with
      | cons r1 r2 =>
        obtain ⟨as, h1, h2⟩ := k1.reads I n r1
        obtain ⟨bs, h3, h4⟩ := itms_reads I n k2 r2
        exact ⟨as ++ bs, .cons h1 h3, by simp [h2, h4]⟩
  | [], _ :: _, _, k, _ => by cases k
  | [], [], _ :: _, _, r => by cases r
  | _ :: _, _, [], _, r => by cases r
/-- repr of such a list -/
def rReprM : List V → Hp → VK → Prop := fun xs H Q => ∃ (a : Addr) (vs : List V) (ds : List PyData), xs = [.ref a] ∧ H a = some (.lst vs) ∧ Paired (Itm H) vs ds ∧ (PyData.list ds).showable = true ∧ (PyData.list ds).depth ≤ 60 ∧ (PyData.list ds).shown.length ≤ sizeLine ∧ Q (.str (PyData.list ds).shown) H
theorem call_reprM (hx : X.ex = []) (k : SysK X.K) (hg : X.A.guards = some []) (hu : X.A.units + 64 < cLine) : CallR X (.builtin "repr") rReprM := by
  intro pins s σ H xs us Q I r h
  obtain ⟨a, vs, ds, rfl, ha, hd, hs, dp, hz, q⟩ := h
  cases r with
  | cons r1 rn =>
    cases rn
    cases r1
    have n := sys_none I hx k
    obtain ⟨its, rv, ⟨o, m, ho, hc, hd', hdt⟩, hlen⟩ := I.list (SqL.of (K := X.K) ha)
    obtain ⟨as, rd, nm⟩ := itms_reads I n hd rv
    have rdl : Reads s.heap (.ref a) (.list ds) (a :: as) := .list ho hc hdt (by simpa using rd)
    have nm2 : sysModules ∉ a :: as := fun hm => by
      rcases List.mem_cons.mp hm with e | hm
      · rw [e, ha] at n; cases n
      · exact nm hm
    exact repr_of_reads' rdl hs (fun _ => nm2) hg (by omega) (fun _ _ z => z) (fun h' u tk kk => ⟨.str (PyData.list ds).shown, H, I.kept kk, ⟨_, rfl⟩, q⟩) hz
end
end Rl
end
section
set_option maxHeartbeats 2000000
namespace Rl
open PySem PySem.Spec PyProof.Rows L2 Nl
/-! ### small data, as repr shows them -/
structure Sml (d : PyData) (k m : Nat) : Prop where
  sh : d.showable = true
  nd : d.hasDict = false
  dp : d.depth ≤ k
  lf : d.leavesShort 2000 = true
  wt : d.weight ≤ m
structure SmlA (ds : List PyData) (k m : Nat) : Prop where
  sh : PyData.showableAll ds = true
  nd : PyData.hasDictAll ds = false
  dp : PyData.depthAll ds ≤ k
  lf : PyData.leavesShortAll 2000 ds = true
  wt : PyData.weightAll ds ≤ m
theorem Sml.str {x : Str} (h : Sm 8 x) : Sml (.str x) 0 8 := ⟨rfl, rfl, Nat.le_refl _, by
  show (x.cps.toList.all fun c => decide (c < 16 ^ 8)) = true
  exact List.all_eq_true.mpr fun c hc => decide_eq_true (Nat.lt_of_lt_of_le (h.2 c hc) (by decide)), h.1⟩
theorem Sml.int {i : Int} (h : i.natAbs.log2 < 200) : Sml (.int i) 0 200 := ⟨decide_eq_true (by omega), rfl, Nat.le_refl _, by
  have := int_text_length_le (k := 200) (by decide) h
  show decide ((Str.ofString (toString i)).length ≤ 2000) = true
  rw [PySem.ofString_length]
  exact decide_eq_true (by omega), by
  show (if i == 0 then 0 else i.natAbs.log2 + 1) ≤ 200
  split <;> omega⟩
theorem SmlA.nil : SmlA [] 0 0 := ⟨rfl, rfl, Nat.le_refl _, rfl, Nat.le_refl _⟩
theorem SmlA.cons {d : PyData} {ds : List PyData} {k m j n : Nat} (h : Sml d k m) (r : SmlA ds j n) : SmlA (d :: ds) (max k j) (m + 1 + n) :=
  ⟨by show (d.showable && PyData.showableAll ds) = true; rw [h.sh, r.sh]; rfl, by show (d.hasDict || PyData.hasDictAll ds) = false; rw [h.nd, r.nd]; rfl,
    by show max d.depth (PyData.depthAll ds) ≤ _; have := h.dp; have := r.dp; omega, by show (d.leavesShort 2000 && PyData.leavesShortAll 2000 ds) = true; rw [h.lf, r.lf]; rfl,
    by show d.weight + 1 + PyData.weightAll ds ≤ _; have := h.wt; have := r.wt; omega⟩
theorem Sml.list {ds : List PyData} {k m : Nat} (h : SmlA ds k m) : Sml (.list ds) (k + 1) m := ⟨h.sh, h.nd, Nat.succ_le_succ h.dp, h.lf, h.wt⟩
theorem Sml.tuple {ds : List PyData} {k m : Nat} (h : SmlA ds k m) : Sml (.tuple ds) (k + 1) m := ⟨h.sh, h.nd, Nat.succ_le_succ h.dp, h.lf, h.wt⟩
theorem Sml.mono {d : PyData} {k m j n : Nat} (h : Sml d k m) (a : k ≤ j) (b : m ≤ n) : Sml d j n := ⟨h.sh, h.nd, Nat.le_trans h.dp a, h.lf, Nat.le_trans h.wt b⟩
theorem SmlA.of {k m : Nat} : ∀ {ds : List PyData}, (∀ d ∈ ds, Sml d k m) → SmlA ds k ((m + 1) * ds.length)
  | [], _ => ⟨rfl, rfl, Nat.zero_le _, rfl, Nat.zero_le _⟩
  | d :: ds, h => by
    have q := SmlA.cons (h d List.mem_cons_self) (SmlA.of fun e he => h e (List.mem_cons_of_mem _ he))
    refine ⟨q.sh, q.nd, Nat.le_trans q.dp (by omega), q.lf, Nat.le_trans q.wt ?_⟩
    rw [List.length_cons, Nat.mul_add]
    omega
theorem Sml.strs {l : List Str} (h : ∀ z ∈ l, Sm 8 z) : Sml (.list (l.map PyData.str)) 1 (9 * l.length) := by
  have q := SmlA.of (k := 0) (m := 8) (ds := l.map PyData.str) fun d hd => by
    obtain ⟨z, hz, rfl⟩ := List.mem_map.mp hd
    exact Sml.str (h z hz)
  rw [List.length_map] at q
  exact Sml.list q
theorem Sml.fits {d : PyData} {k m : Nat} (h : Sml d k m) (a : k ≤ 60) (b : m ≤ 8000) : d.showable = true ∧ d.hasDict = false ∧ d.depth ≤ 60 ∧ d.shown.length ≤ sizeLine := by
  refine ⟨h.sh, h.nd, Nat.le_trans h.dp a, Nat.le_trans (PyData.shown_le 2000 (by decide) d h.lf) ?_⟩
  rw [sizeLine_eq]
  have := Nat.mul_le_mul_left 2002 (Nat.le_trans h.wt b)
  omega
end Rl
end
section
set_option maxHeartbeats 4000000
/-! data of any kind: repr and str of them -/
namespace Rl
open PySem PySem.Spec PyProof.Rows L2 Nl Nt
mutual
inductive Dx (H : Hp) : V → PyData → Prop
  | non : Dx H .non .none
  | bl (b : Bool) : Dx H (.bl b) (.bool b)
  | int (i : Int) : Dx H (.int i) (.int i)
  | str (x : Str) : Dx H (.str x) (.str x)
  | lst {a : Addr} {xs : List V} {ds : List PyData} : H a = some (.lst xs) → DxAll H xs ds → Dx H (.ref a) (.list ds)
  | tup {a : Addr} {xs : List V} {ds : List PyData} : H a = some (.tup xs) → DxAll H xs ds → Dx H (.ref a) (.tuple ds)
  | dic {a : Addr} : H a = some (.dK []) → Dx H (.ref a) (.dict [])
inductive DxAll (H : Hp) : List V → List PyData → Prop
  | nil : DxAll H [] []
  | cons {v : V} {vs : List V} {d : PyData} {ds : List PyData} : Dx H v d → DxAll H vs ds → DxAll H (v :: vs) (d :: ds)
end
mutual
theorem Dx.same {H H' : Hp} (sm : Same H H') : ∀ (d : PyData) (v : V), Dx H v d → Dx H' v d
  | .none, _, h => by cases h; exact .non
  | .bool b, _, h => by cases h; exact .bl b
  | .int i, _, h => by cases h; exact .int i
  | .str x, _, h => by cases h; exact .str x
  | .list ds, _, h => by
    cases h with
    | lst a b => exact .lst (sm _ _ a) (DxAll.same sm ds _ b)
  | .tuple ds, _, h => by
    cases h with
    | tup a b => exact .tup (sm _ _ a) (DxAll.same sm ds _ b)
  | .dict kvs, _, h => by
    cases h with
    | dic a => exact .dic (sm _ _ a)
theorem DxAll.same {H H' : Hp} (sm : Same H H') : ∀ (ds : List PyData) (vs : List V), DxAll H vs ds → DxAll H' vs ds
  | [], _, h => by cases h; exact .nil
  | d :: ds, _, h => by
    cases h with
    | cons a b => exact .cons (Dx.same sm d _ a) (DxAll.same sm ds _ b)
end
theorem dxAll_strs {H : Hp} : ∀ l : List Str, DxAll H (l.map V.str) (l.map PyData.str)
  | [] => .nil
  | z :: l => .cons (.str z) (dxAll_strs l)
theorem dxAll_of {H : Hp} {p : PyData → Prop} : ∀ {xs : List V}, (∀ v ∈ xs, ∃ d, Dx H v d ∧ p d) → ∃ ds, DxAll H xs ds ∧ ds.length = xs.length ∧ ∀ d ∈ ds, p d
  | [], _ => ⟨[], .nil, rfl, fun d hd => absurd hd List.not_mem_nil⟩
  | v :: xs, h => by
    obtain ⟨d, h1, h2⟩ := h v List.mem_cons_self
    obtain ⟨ds, h3, h4, h5⟩ := dxAll_of (xs := xs) fun u hu => h u (List.mem_cons_of_mem _ hu)
    refine ⟨d :: ds, .cons h1 h3, by rw [List.length_cons, List.length_cons, h4], fun e he => ?_⟩
    rcases List.mem_cons.mp he with rfl | he
    · exact h2
    · exact h5 e he
section
variable {X : Cx} {pins : List (Addr × Obj)} {σ : List (Option V)} {H : Hp} {s : Shared}
mutual
theorem Dx.reads (I : Inv X pins σ H s) (n : H sysModules = none) : ∀ (d : PyData) (v : V) (u : Value), Dx H v d → L2.RelV v u → ∃ as, Reads s.heap u d as ∧ sysModules ∉ as
  | .none, _, _, h, r => by
    cases h
    cases r
    exact ⟨_, Reads.none, by simp⟩
  | .bool b, _, _, h, r => by
    cases h
    cases r
    exact ⟨_, Reads.bool b, by simp⟩
  | .int i, _, _, h, r => by
    cases h
    obtain ⟨t, rfl⟩ := r
    exact ⟨_, Reads.int i t, by simp⟩
  | .str x, _, _, h, r => by
    cases h
    obtain ⟨t, rfl⟩ := r
    exact ⟨_, Reads.str x t, by simp⟩
  | .list ds, _, _, h, r => by
    cases h with
    | @lst a xs _ hs ha =>
      cases r
      obtain ⟨its, rv, ⟨o, m, ho, hc, _, hd⟩, _⟩ := I.list (SqL.of (K := X.K) hs)
      obtain ⟨as, hr, nm⟩ := Dx.readsAll I n ds _ its ha rv
      refine ⟨_, Reads.list ho hc hd hr, fun hm => ?_⟩
      rcases List.mem_cons.mp hm with e | hm
      · rw [e, hs] at n; cases n
      · exact nm hm
  | .tuple ds, _, _, h, r => by
    cases h with
    | tup hs ha =>
      cases r
      obtain ⟨its, rv, ⟨o, ho, hc, m, hd⟩, _⟩ := I.tuple (SqT.of (K := X.K) hs)
      obtain ⟨as, hr, nm⟩ := Dx.readsAll I n ds _ its ha rv
      exact ⟨_, Reads.tuple ho hc hd hr, nm⟩
  | .dict _, _, _, h, r => by
    cases h with
    | dic ha =>
      cases r
      exact reads_dN (B := []) I ha
theorem Dx.readsAll (I : Inv X pins σ H s) (n : H sysModules = none) : ∀ (ds : List PyData) (vs : List V) (us : List Value), DxAll H vs ds → Vals vs us → ∃ as, ReadsAll s.heap us ds as ∧ sysModules ∉ as
  | [], _, _, h, r => by
    cases h
    cases r
    exact ⟨_, ReadsAll.nil, by simp⟩
  | d :: ds, _, _, h, r => by
    cases h with
    | cons h1 h2 =>
      cases r with
      | cons r1 r2 =>
        obtain ⟨as, q1, n1⟩ := Dx.reads I n d _ _ h1 r1
        obtain ⟨bs, q2, n2⟩ := Dx.readsAll I n ds _ _ h2 r2
        exact ⟨as ++ bs, ReadsAll.cons q1 q2, by simp [n1, n2]⟩
end
end
/-- what repr shows -/
structure Shw (d : PyData) : Prop where
  sh : d.showable = true
  dp : d.depth ≤ 60
  ln : d.shown.length ≤ sizeLine
/-- str of a thing -/
def strD : PyData → Str
  | .str x => x
  | d => d.shown
def rReprX : List V → Hp → VK → Prop := fun xs H Q => ∃ (v : V) (d : PyData), xs = [v] ∧ Dx H v d ∧ Shw d ∧ Q (.str d.shown) H
def rStrX : List V → Hp → VK → Prop := fun xs H Q => ∃ (v : V) (d : PyData), xs = [v] ∧ Dx H v d ∧ Shw d ∧ Q (.str (strD d)) H
section
variable {X : Cx}
theorem sys_noneX {pins : List (Addr × Obj)} {σ : List (Option V)} {H : Hp} {s : Shared} (I : Inv X pins σ H s) (k : SysK X.K) : H sysModules = none := by
  obtain ⟨o', h2⟩ := Option.isSome_iff_exists.mp k
  have h3 := I.ok.mod.kin _ _ h2
  obtain ⟨b1, b2⟩ := I.ok.bs _ _ h3
  exact I.base.free _ _ b1 b2 (I.ok.noex _ _ h3)
theorem call_reprX (k : SysK X.K) (hg : X.A.guards = some []) (hu : X.A.units + 64 < cLine) : CallR X (.builtin "repr") rReprX := by
  intro pins s σ H xs us Q I r h
  obtain ⟨v, d, rfl, hd, sh, q⟩ := h
  obtain ⟨u, rfl, r1⟩ := vals1 r
  · have n := sys_noneX I k
    have go : ∀ (a : Addr), v = .ref a → wpAny (model X.prog X.w) X.A (call (.builtin "repr") [u]) (fun u s' => ∃ x H', Inv X pins σ H' s' ∧ L2.RelV x u ∧ Q x H') X.xe s := fun a e => by
      subst e
      obtain ⟨as, rd, nm⟩ := Dx.reads I n d _ _ hd r1
      cases r1
      exact repr_of_reads' rd sh.sh (fun _ => nm) hg (by have := sh.dp; omega) (fun _ _ z => z) (fun h' u tk kk => ⟨.str d.shown, H, I.kept kk, ⟨_, rfl⟩, q⟩) sh.ln
    cases hd with
    | non => cases r1; exact PySem.P.repr_of_none ⟨.str _, H, I.tok _, ⟨_, rfl⟩, q⟩
    | bl b => cases r1; exact PySem.P.repr_of_bool ⟨.str _, H, I.tok _, ⟨_, rfl⟩, q⟩
    | int i =>
      obtain ⟨t, rfl⟩ := r1
      have hs := sh.sh
      exact PySem.P.repr_of_int (of_decide_eq_true hs) ⟨.str _, H, I.tok _, ⟨_, rfl⟩, q⟩
    | str x =>
      obtain ⟨t, rfl⟩ := r1
      exact PySem.P.repr_of_str ⟨.str _, H, I.tok _, ⟨_, rfl⟩, q⟩ (hsz := sh.ln)
    | lst _ _ => exact go _ rfl
    | tup _ _ => exact go _ rfl
    | dic _ => exact go _ rfl
theorem call_strX (k : SysK X.K) (hg : X.A.guards = some []) (hu : X.A.units + 64 < cLine) : CallR X (.type "str") rStrX := by
  intro pins s σ H xs us Q I r h
  obtain ⟨v, d, rfl, hd, sh, q⟩ := h
  obtain ⟨u, rfl, r1⟩ := vals1 r
  · have n := sys_noneX I k
    have go : ∀ (a : Addr), v = .ref a → strD d = d.shown → wpAny (model X.prog X.w) X.A (call (.type "str") [u]) (fun u s' => ∃ x H', Inv X pins σ H' s' ∧ L2.RelV x u ∧ Q x H') X.xe s := fun a e e2 => by
      subst e
      obtain ⟨as, rd, nm⟩ := Dx.reads I n d _ _ hd r1
      cases r1
      rw [e2] at q
      exact str_of_reads rd sh.sh (fun _ => nm) hg (by have := sh.dp; omega) (fun _ _ z => z) (fun h' u tk kk => ⟨.str d.shown, H, I.kept kk, ⟨_, rfl⟩, q⟩) sh.ln
    cases hd with
    | non => cases r1; exact PySem.P.str_of_none ⟨.str _, H, I.tok _, ⟨_, rfl⟩, q⟩
    | bl b => cases r1; exact PySem.P.str_of_bool ⟨.str _, H, I.tok _, ⟨_, rfl⟩, q⟩
    | int i =>
      obtain ⟨t, rfl⟩ := r1
      have hs := sh.sh
      exact PySem.P.str_of_int (of_decide_eq_true hs) ⟨.str _, H, I.tok _, ⟨_, rfl⟩, q⟩
    | str x =>
      obtain ⟨t, rfl⟩ := r1
      exact PySem.P.str_of_str ⟨.str x, H, I, ⟨t, rfl⟩, q⟩
    | lst _ _ => exact go _ rfl rfl
    | tup _ _ => exact go _ rfl rfl
    | dic _ => exact go _ rfl rfl
end
/-! ### small data, dicts too -/
structure Smx (d : PyData) (k m : Nat) : Prop where
  sh : d.showable = true
  dp : d.depth ≤ k
  lf : d.leavesShort 2000 = true
  wt : d.weight ≤ m
structure SmxA (ds : List PyData) (k m : Nat) : Prop where
  sh : PyData.showableAll ds = true
  dp : PyData.depthAll ds ≤ k
  lf : PyData.leavesShortAll 2000 ds = true
  wt : PyData.weightAll ds ≤ m
theorem Sml.smx {d : PyData} {k m : Nat} (h : Sml d k m) : Smx d k m := ⟨h.sh, h.dp, h.lf, h.wt⟩
theorem Smx.mono {d : PyData} {k m j n : Nat} (h : Smx d k m) (a : k ≤ j) (b : m ≤ n) : Smx d j n := ⟨h.sh, Nat.le_trans h.dp a, h.lf, Nat.le_trans h.wt b⟩
theorem SmxA.of {k m : Nat} : ∀ {ds : List PyData}, (∀ d ∈ ds, Smx d k m) → SmxA ds k ((m + 1) * ds.length)
  | [], _ => ⟨rfl, Nat.zero_le _, rfl, Nat.zero_le _⟩
  | d :: ds, h => by
    have a := h d List.mem_cons_self
    have r := SmxA.of fun e he => h e (List.mem_cons_of_mem d he)
    refine ⟨by show (d.showable && PyData.showableAll ds) = true; rw [a.sh, r.sh]; rfl, by show max d.depth (PyData.depthAll ds) ≤ _; have := a.dp; have := r.dp; omega, by show (d.leavesShort 2000 && PyData.leavesShortAll 2000 ds) = true; rw [a.lf, r.lf]; rfl, ?_⟩
    show d.weight + 1 + PyData.weightAll ds ≤ _
    have := a.wt
    have := r.wt
    rw [List.length_cons, Nat.mul_add]
    omega
theorem Smx.lst {ds : List PyData} {k m : Nat} (h : SmxA ds k m) : Smx (.list ds) (k + 1) m := ⟨h.sh, Nat.succ_le_succ h.dp, h.lf, h.wt⟩
theorem Smx.tup {ds : List PyData} {k m : Nat} (h : SmxA ds k m) : Smx (.tuple ds) (k + 1) m := ⟨h.sh, Nat.succ_le_succ h.dp, h.lf, h.wt⟩
theorem Smx.txt {x : Str} {n : Nat} (h : Sm n x) : Smx (.str x) 0 n := ⟨rfl, Nat.le_refl _, by
  show (x.cps.toList.all fun c => decide (c < 16 ^ 8)) = true
  exact List.all_eq_true.mpr fun c hc => decide_eq_true (Nat.lt_of_lt_of_le (h.2 c hc) (by decide)), h.1⟩
theorem Smx.shw {d : PyData} {k m : Nat} (h : Smx d k m) (a : k ≤ 60) (b : m ≤ 8000) : Shw d := by
  refine ⟨h.sh, Nat.le_trans h.dp a, Nat.le_trans (PyData.shown_le 2000 (by decide) d h.lf) ?_⟩
  rw [sizeLine_eq]
  have := Nat.mul_le_mul_left 2002 (Nat.le_trans h.wt b)
  omega
end Rl
end
section
set_option maxHeartbeats 2000000
namespace Rl
open PySem PySem.Spec PyProof.Rows L2
/-! ### a dict of ints in a list of such dicts -/
section
open AutoSeq1 (wpAny_loadPart')
open MeetsSeq MeetsSeq2 MeetsSeq3 SeqRoads2 SeqAt
variable {P : Program} {w : World}
/-- the walk through the list, from place i on, m places being left -/
theorem dl_loop {l : Addr} {its : Array Value} {n : Nat} {dd : Option Addr} {sl : Array (Option Value)} {x : Value} (e : Value → Bool) : ∀ (m i : Nat), its.size = i + m →
    MeetsIn P w (Builtin.«list.__contains__.loop» ⟨[.ref l, x, rawInt i], []⟩) fun A R s => s.heap.get? l = some { cls := .type "list", dict := dd, data := .seq its n, slots := sl } ∧ (∀ y ∈ its, SeqAt.EqIn P w A.in1 s y x (e y)) ∧ R (.ok (.ret (.bool ((its.toList.drop i).any e)))) s
  | 0, i, hm => by
    intro A R s ⟨hl, he, h⟩
    obtain ⟨hp, g, d, tk, os⟩ := s
    wp_walk using wpAny_loadPart' hl
    have none_ : its[((i : Nat) : Int).toNat]? = none := by simp; omega
    rw [none_]
    rw [show its.toList.drop i = [] by simp; omega] at h
    wp_walk
    exact h
  | m + 1, i, hm => by
    intro A R s ⟨hl, he, h⟩
    obtain ⟨hp, g, d, tk, os⟩ := s
    wp_walk using wpAny_loadPart' hl
    have lt : i < its.size := by omega
    have at_ : its[((i : Nat) : Int).toNat]? = some its[i] := by simp [lt]
    rw [at_]
    rw [show its.toList.drop i = its[i] :: its.toList.drop (i + 1) by simp [List.drop_eq_getElem_cons, lt], List.any_cons] at h
    refine wpAny_bind (he its[i] (Array.getElem_mem lt) _ _ ?_)
    cases c : e its[i] with
    | true =>
      rw [c] at h
      wp_walk
      exact h
    | false =>
      rw [c] at h
      have up : (i : Int) + 1 = ((i + 1 : Nat) : Int) := by push_cast; rfl
      wp_walk
      rw [up]
      refine ⟨plainId_quiet plain_contains_loop _, codeAny_builtin entry_contains_loop ?_⟩
      rw [Around.under_plainId plain_contains_loop _]
      exact dl_loop e m (i + 1) (by omega) A R _ ⟨hl, he, by simpa using h⟩
theorem dl_in {A : Around} {E : Value → Shared → Prop} {s : Shared} {l : Addr} {its : Array Value} {x : Value} {Q : Value → Shared → Prop} (e : Value → Bool) (hl : s.heap.IsList l its) (he : ∀ y ∈ its, SeqAt.EqIn P w A.in1 s y x (e y)) (h : Q (.bool (its.any e)) s) :
    wpAny (model P w) A (compareOp .In x (.ref l)) Q E s := by
  obtain ⟨⟨cls, dd, data, sl⟩, ho, hc, n, hd⟩ := id hl
  simp only at hc hd
  subst hc hd
  have all_ : MeetsIn P w (Builtin.«list.__contains__» ⟨[.ref l, x], []⟩) fun A R s => s.heap.get? l = some { cls := .type "list", dict := dd, data := .seq its n, slots := sl } ∧ (∀ y ∈ its, SeqAt.EqIn P w A.in1 s y x (e y)) ∧ R (.ok (.ret (.bool (its.any e)))) s := by
    intro A R s ⟨hl, he, h⟩
    obtain ⟨hp, g, d, tk, os⟩ := s
    wp_walk using wpAny_loadPart' hl
    refine ⟨plainId_quiet plain_contains_loop _, codeAny_builtin entry_contains_loop ?_⟩
    rw [Around.under_plainId plain_contains_loop _]
    exact dl_loop e its.size 0 (by omega) A R _ ⟨hl, he, by simpa using h⟩
  show wpAny _ A (do return .bool (← contains (.ref l) x)) Q E s
  refine wpAny_bind (wpAny_contains_slot (T := "list") ⟨_, ho, rfl⟩ F.slot_list_contains ?_)
  refine wpAny_mono (call_meetsIn (Q := fun v s' => ∃ b, v = .bool b ∧ Q (.bool b) s') (E := E) F.slot_list_contains ⟨_, ho, rfl⟩ F.entry_list_contains (F.args_list_contains_2 _ _) all_ ⟨ho, he, _, rfl, h⟩) (fun v s' hv => ?_) fun _ _ z => z
  obtain ⟨b, rfl, hq⟩ := hv
  exact wpAny_truthy_bool (wpAny_pure hq)
end
noncomputable abbrev dk (p : Prop) : Bool := @decide p (Classical.propDecidable p)
theorem dkT {p : Prop} (h : p) : dk p = true := @decide_eq_true p (Classical.propDecidable p) h
theorem dkF {p : Prop} (h : ¬ p) : dk p = false := @decide_eq_false p (Classical.propDecidable p) h
theorem dkO {p : Prop} (h : dk p = true) : p := @of_decide_eq_true p (Classical.propDecidable p) h
/-- by what a dict at an address holds -/
noncomputable def isK (H : Hp) (ks : List (Key × V)) : Value → Bool := fun y => match y with
  | .ref b => dk (H b = some (.dK ks))
  | _ => false
section
variable {X : Cx}
def rInDs : R2 := fun x y H Q => ∃ (a l : Addr) (ps : List (Addr × List (Key × V))) (ks : List (Key × V)), x = .ref a ∧ y = .ref l ∧ H l = some (.lst (ps.map fun p => V.ref p.1)) ∧ H a = some (.dK ks) ∧
  (∀ p ∈ ps, H p.1 = some (.dK p.2) ∧ p.2.length = ks.length ∧ (∀ r ∈ p.2, ∃ i j : Int, r.2 = .int i ∧ valV ks r.1 = some (.int j)) ∧ ((p.2.all fun r => decide (valV ks r.1 = some r.2)) = true → p.2 = ks)) ∧
  (ks.all fun r => decide (valV ks r.1 = some r.2)) = true ∧ Q (.bl (dk (∃ p ∈ ps, p.2 = ks))) H
theorem op_inDs (hu : X.A.units + 2 < cLine) : OpR X (compareOp .In) rInDs := by
  intro pins s σ H x y v u Q I rx ry h
  obtain ⟨a, l, ps, ks, rfl, rfl, hl, ha, hp, self, q⟩ := h
  obtain rfl : v = Value.ref a := rx
  obtain rfl : u = Value.ref l := ry
  obtain ⟨its, rv, hlist, hlen⟩ := I.list (SqL.of (K := X.K) hl)
  obtain ⟨_, ya, va, ra, da⟩ := (show ObjOk X.prog X.w H s.heap a (.dK ks) from I.hok a _ ha)
  have items : its = ps.map fun p => Value.ref p.1 := by
    clear hlist hlen hp q hl
    revert its
    induction ps with
    | nil => intro its rv; cases rv; rfl
    | cons p ps ih =>
      intro its rv
      cases rv with
      | cons r t =>
        rw [ih _ t]
        rw [show _ = Value.ref p.1 from r]; rfl
  subst items
  refine dl_in (isK H ks) hlist.isList (fun y hy => ?_) ?_
  · obtain ⟨p, hp1, rfl⟩ : ∃ p ∈ ps, Value.ref p.1 = y := by simpa using hy
    obtain ⟨h1, h2, h3, h4⟩ := hp p hp1
    obtain ⟨_, yb, vb, rb, db⟩ := (show ObjOk X.prog X.w H s.heap p.1 (.dK p.2) from I.hok p.1 _ h1)
    by_cases c : p.1 = a
    · have e : p.2 = ks := by
        have := h1
        rw [c, ha] at this
        exact (HO.dK.inj (Option.some.inj this)).symm
      have et : isK H ks (.ref p.1) = true := by
        show dk (H p.1 = some (.dK ks)) = true
        exact dkT (by rw [h1, e])
      rw [et, c]
      exact (SeqAt.EqAt.same _).inModel X.prog X.w
    · have et : isK H ks (.ref p.1) = (p.2.all fun r => decide (valV ks r.1 = some r.2)) := by
        show dk (H p.1 = some (.dK ks)) = _
        by_cases e : p.2 = ks
        · rw [dkT (by rw [h1, e]), e, self]
        · rw [dkF (fun z => e (by rw [h1] at z; exact HO.dK.inj (Option.some.inj z)))]
          cases hh : (p.2.all fun r => decide (valV ks r.1 = some r.2)) with
          | false => rfl
          | true => exact absurd (h4 hh) e
      rw [et]
      have hlv : vb.length = va.length := by rw [← rb.length, ← ra.length]; exact h2
      exact SeqAt.EqIn.of_refs c fun E Q hq => PySem.W.keq_eq (knd := mixKind X.prog X.w) yb ya db da (by show X.A.units + 1 < cLine; omega) (fun _ => hits_ints ra rb h3) (by rw [hlv, beq_self_eq_true, Bool.true_and]; exact hq)
  · have eb : (Array.any (List.toArray (ps.map fun p => Value.ref p.1)) (isK H ks)) = dk (∃ p ∈ ps, p.2 = ks) := by
      by_cases c : ∃ p ∈ ps, p.2 = ks
      · rw [dkT c]
        obtain ⟨p, hp1, hp2⟩ := c
        simp only [List.any_toArray, List.any_map, List.any_eq_true]
        refine ⟨p, hp1, ?_⟩
        show dk (H p.1 = some (.dK ks)) = true
        exact dkT (by rw [(hp p hp1).1, hp2])
      · rw [dkF c]
        simp only [List.any_toArray, List.any_map, List.any_eq_false]
        intro p hp1 hz
        have hz' : dk (H p.1 = some (.dK ks)) = true := hz
        have := dkO hz'
        rw [(hp p hp1).1] at this
        exact c ⟨p, hp1, HO.dK.inj (Option.some.inj this)⟩
    rw [eb]
    exact ⟨.bl _, H, I, rfl, q⟩
end
end Rl
end
section
set_option maxHeartbeats 2000000
namespace Rl
open PySem PySem.Spec PyProof.Rows L2
/-! ### a text in a list that may hold dicts -/
section
variable {A : Around} {s : Shared}
theorem str_eq_declines_dict (b : Str) (u : Tok) (l : Addr) (c : Value) (es : Array DictEntry) (ep : Nat) (dd : Option Addr) (sl : Array (Option Value)) :
    Meets (Builtin.«str.__eq__» ⟨[.str b u, .ref l], []⟩) (fun _ R s => s.heap.get? l = some { cls := c, dict := dd, data := .dict es ep, slots := sl } ∧ R (.ok (.ret .notImplemented)) s) :=
  .of_wp fun prog w A R s h => by obtain ⟨hp, g, d, tk, os⟩ := s; obtain ⟨hl, h⟩ := h; wp_walk using AutoSeq1.wpAny_loadPart' hl, wpAny_load hl; exact ⟨_, rfl, h⟩
theorem eqAt_dict_str {P : Program} {w : World} {l : Addr} {kvs : List (Key × Value)} (b : Str) (u : Tok) (da : s.heap.DictOf (mixKind P w) l kvs) (hu : A.units < cLine) : SeqAt.EqAt A s (.ref l) (.str b u) false := fun prog w E Q h => by
  unfold eqBool
  refine wpAny_holding ?_
  refine wpAny_ite_split (fun hab => absurd (eq_of_beq hab) nofun) (fun _ => ?_)
  refine wpAny_bind ?_
  obtain ⟨⟨cls, dd, data, sl⟩, es, ep, ho, ⟨hc, h2, h3⟩, hd, _⟩ := id da
  simp only at hc h2 h3 hd
  subst hc h2 h3 hd
  refine SeqAt.rc_eq_decline_or (k := false) da.typeIs (typeIs_str s b u) (by decide) PySem.F.sub_str_dict PySem.F.slot_dict_eq PySem.F.slot_str_eq_refl
    (fun Q' hq => ?_)
    (fun _ hq => call_meets PySem.F.slot_str_eq_refl (typeIs_str s b u) PySem.F.entry_str_eq (PySem.F.args_str_eq_2 _ _) (str_eq_declines_dict b u l (.type "dict") es ep none #[]) ⟨ho, hq⟩)
    (fun _ hq => wpAny_of_eq (rfl : isSame (.ref l) (.str b u) = pure false) hq) (.inr hu) (wpAny_truthy_bool h)
  refine wpAny_call_entry PySem.F.slot_dict_eq da.typeIs PySem.F.entry_dict_eq ?_ (PySem.F.args_dict_eq_2 _ _)
  show wpAny _ _ (Builtin.Dict.dictSlotArgs "__eq__" ⟨[.ref l, .str b u], []⟩ >>= _) _ _ s
  refine wpAny_bind ?_
  unfold Builtin.Dict.dictSlotArgs
  refine wpAny_bind (wpAny_notOrdered_dict da.typeIs ?_)
  show wpAny _ _ (pure (Value.ref l, Value.str b u)) _ _ s
  refine wpAny_pure ?_
  refine wpAny_bind (wpAny_isInstance (T := "str") (typeIs_str s b u) PySem.F.sub_str_dict ?_)
  simp only [Bool.not_false, if_true]
  wp_walk
  exact ⟨_, rfl, ‹_›⟩
end
/-- what a text may be looked for among: plain data, dicts -/
def Mx (K : PySem.W.Frag) (H : Hp) (v : V) : Prop := (∃ d, Dp K H v d ∧ SeqAt.shaped d = true) ∨ ∃ a kvs, v = .ref a ∧ H a = some (.dK kvs)
/-- by the text that a value is -/
def isT (z : Str) : Value → Bool := fun y => match y with
  | .str x _ => x == z
  | _ => false
theorem any_isT {z : Str} : ∀ {xs : List V} {its : List Value}, Vals xs its → its.any (isT z) = decide (V.str z ∈ xs)
  | [], [], _ => by simp
  | x :: xs, u :: its, h => by
    cases h with
    | cons r t =>
      rw [List.any_cons, any_isT t]
      cases x with
      | str y =>
        obtain ⟨tk, rfl⟩ := r
        show ((y == z) || _) = _
        by_cases c : y = z
        · rw [c]; simp
        · have c2 : ¬ V.str z = V.str y := fun e => c (V.str.inj e).symm
          have c3 : (y == z) = false := by simpa using c
          rw [c3, Bool.false_or]
          simp [c2]
      | non => cases r; simp [isT]
      | bl b => cases r; simp [isT]
      | int i => obtain ⟨tk, rfl⟩ := r; simp [isT]
      | byt b => obtain ⟨tk, rfl⟩ := r; simp [isT]
      | flt b => obtain ⟨tk, rfl⟩ := r; simp [isT]
      | ref a => cases r; simp [isT]
      | ty n => cases r; simp [isT]
  | [], _ :: _, h => by cases h
  | _ :: _, [], h => by cases h
theorem eqv_isT {K : PySem.W.Frag} {H : Hp} {z : Str} {v : V} {u : Value} {d : PyData} (h : Dp K H v d) (r : RelV v u) : PyData.eqv d (.str z) = isT z u := by
  cases h with
  | non => cases r; simp [isT, PyData.eqv]
  | bl b => cases r; simp [isT, PyData.eqv]
  | int i => obtain ⟨tk, rfl⟩ := r; simp [isT, PyData.eqv]
  | str x => obtain ⟨tk, rfl⟩ := r; simp [isT, PyData.eqv]
  | lst _ _ => cases r; simp [isT, PyData.eqv]
  | tup _ _ => cases r; simp [isT, PyData.eqv]
section
variable {X : Cx}
theorem mx_eq {H : Hp} {s : Shared} {σ : L2.St} {pins : List (Addr × Obj)} {X : Cx} {z : Str} {t : Tok} (sz : SeqAt.shaped (.str z) = true) (hu : X.A.units + 65 < cLine) (I : Inv X pins σ H s) : ∀ {xs : List V} {its : List Value}, Vals xs its → (∀ v ∈ xs, Mx X.K H v) → ∀ y ∈ its, SeqAt.EqAt X.A.in1 s y (.str z t) (isT z y)
  | [], [], _, _, y, hy => absurd hy List.not_mem_nil
  | x :: xs, u :: its, h, hm, y, hy => by
    cases h with
    | cons r tl =>
      rcases List.mem_cons.mp hy with rfl | hy
      · rcases hm x List.mem_cons_self with ⟨d, hd, sd⟩ | ⟨a, kvs, rfl, ha⟩
        · obtain ⟨as, ra⟩ := Dp.reads I d x y hd r
          obtain ⟨bs, rb⟩ := Dp.reads I (.str z) (.str z) (.str z t) (.str z) ⟨t, rfl⟩
          rw [← eqv_isT hd r]
          refine SeqAt.eqAt_reads d (.str z) X.A.in1 s y _ as bs ra rb (SeqAt.canLay_of_shaped sd) (SeqAt.canLay_of_shaped sz) ?_
          have h2 : min d.depth (PyData.depth (.str z)) ≤ PyData.depth (.str z) := Nat.min_le_right _ _
          have h3 : PyData.depth (.str z) = 0 := by simp [PyData.depth]
          show X.A.units + 1 + _ < cLine
          omega
        · obtain rfl : y = Value.ref a := r
          obtain ⟨_, ya, va, ra, da⟩ := (show ObjOk X.prog X.w H s.heap a (.dK kvs) from I.hok a _ ha)
          exact eqAt_dict_str z t da (by show X.A.units + 1 < cLine; omega)
      · exact mx_eq sz hu I tl (fun v hv => hm v (List.mem_cons_of_mem _ hv)) y hy
  | [], _ :: _, h, _, _, _ => by cases h
  | _ :: _, [], h, _, _, _ => by cases h
def rInM (K : PySem.W.Frag) : R2 := fun x y H Q => ∃ (z : Str) (l : Addr) (xs : List V), x = .str z ∧ y = .ref l ∧ SqL K H l xs ∧ SeqAt.shaped (.str z) = true ∧ (∀ v ∈ xs, Mx K H v) ∧ Q (.bl (decide (V.str z ∈ xs))) H
def rNotInM (K : PySem.W.Frag) : R2 := fun x y H Q => ∃ (z : Str) (l : Addr) (xs : List V), x = .str z ∧ y = .ref l ∧ SqL K H l xs ∧ SeqAt.shaped (.str z) = true ∧ (∀ v ∈ xs, Mx K H v) ∧ Q (.bl (!decide (V.str z ∈ xs))) H
theorem op_inM (hu : X.A.units + 65 < cLine) : OpR X (compareOp .In) (rInM X.K) := by
  intro pins s σ H x y v u Q I rx ry h
  obtain ⟨z, l, xs, rfl, rfl, hl, sz, hm, q⟩ := h
  obtain ⟨t, rfl⟩ := rx
  obtain rfl : u = Value.ref l := ry
  obtain ⟨its, rv, hlist, hlen⟩ := I.list hl
  refine SeqAt.in_listAt (isT z) hlist.isList (fun y hy => mx_eq sz hu I rv hm y (by simpa using hy)) ?_
  rw [show its.toArray.any (isT z) = its.any (isT z) by simp, any_isT rv]
  exact ⟨.bl _, H, I, rfl, q⟩
theorem op_notInM (hu : X.A.units + 65 < cLine) : OpR X (compareOp .NotIn) (rNotInM X.K) := by
  intro pins s σ H x y v u Q I rx ry h
  obtain ⟨z, l, xs, rfl, rfl, hl, sz, hm, q⟩ := h
  obtain ⟨t, rfl⟩ := rx
  obtain rfl : u = Value.ref l := ry
  obtain ⟨its, rv, hlist, hlen⟩ := I.list hl
  refine SeqAt.notIn_listAt (isT z) hlist.isList (fun y hy => mx_eq sz hu I rv hm y (by simpa using hy)) ?_
  rw [show its.toArray.any (isT z) = its.any (isT z) by simp, any_isT rv]
  exact ⟨.bl _, H, I, rfl, q⟩
end
end Rl
end
section
set_option maxHeartbeats 2000000
namespace Rl
open PySem PySem.Spec PyProof.Rows L2 Nl Nt
/-! ### is it the empty list, the empty tuple -/
section
variable {A : Around} {s : Shared}
theorem list_declines_dict (l b : Addr) (items : Array Value) (n : Nat) (dd dd2 : Option Addr) (sl sl2 : Array (Option Value)) (es : Array DictEntry) (ep : Nat) :
    Meets (Builtin.«list.__eq__» ⟨[.ref l, .ref b], []⟩) (fun _ R s => s.heap.get? l = some { cls := .type "list", dict := dd, data := .seq items n, slots := sl } ∧ s.heap.get? b = some { cls := .type "dict", dict := dd2, data := .dict es ep, slots := sl2 } ∧ R (.ok (.ret .notImplemented)) s) :=
  .of_wp fun prog w A R s h => by
    obtain ⟨hp, g, d, tk, os⟩ := s
    obtain ⟨hl, hb, h⟩ := h
    have f1 : isSubtype (.type "dict") (.type "list") = pure false := by rw [isSubtype_type]; kernel_rfl
    wp_walk using AutoSeq1.wpAny_loadPart' hl, AutoSeq1.wpAny_loadPart' hb
    exact ⟨_, rfl, h⟩
theorem tuple_declines_dict (l b : Addr) (items : Array Value) (n : Nat) (dd dd2 : Option Addr) (sl sl2 : Array (Option Value)) (es : Array DictEntry) (ep : Nat) :
    Meets (Builtin.«tuple.__eq__» ⟨[.ref l, .ref b], []⟩) (fun _ R s => s.heap.get? l = some { cls := .type "tuple", dict := dd, data := .seq items n, slots := sl } ∧ s.heap.get? b = some { cls := .type "dict", dict := dd2, data := .dict es ep, slots := sl2 } ∧ R (.ok (.ret .notImplemented)) s) :=
  .of_wp fun prog w A R s h => by
    obtain ⟨hp, g, d, tk, os⟩ := s
    obtain ⟨hl, hb, h⟩ := h
    have f1 : isSubtype (.type "dict") (.type "tuple") = pure false := by rw [isSubtype_type]; kernel_rfl
    wp_walk using AutoSeq1.wpAny_loadPart' hl, AutoSeq1.wpAny_loadPart' hb
    exact ⟨_, rfl, h⟩
theorem dict_declines_seq {P P2 : Program} {w w2 : World} {l b : Addr} {T : String} {o : Obj} {kvs : List (Key × Value)} {E : Value → Shared → Prop} {Q : Value → Shared → Prop} (da : s.heap.DictOf (mixKind P w) b kvs) (ho : s.heap.get? l = some o) (hc : o.cls = .type T) (hs : isSubtype (.type T) (.type "dict") = pure false)
    (hq : Q .notImplemented s) : wpAny (model P2 w2) A (call (.builtin "dict.__eq__") [.ref b, .ref l]) Q E s := by
  refine wpAny_call_entry PySem.F.slot_dict_eq da.typeIs PySem.F.entry_dict_eq ?_ (PySem.F.args_dict_eq_2 _ _)
  show wpAny _ _ (Builtin.Dict.dictSlotArgs "__eq__" ⟨[.ref b, .ref l], []⟩ >>= _) _ _ s
  refine wpAny_bind ?_
  unfold Builtin.Dict.dictSlotArgs
  refine wpAny_bind (wpAny_notOrdered_dict da.typeIs ?_)
  show wpAny _ _ (pure (Value.ref b, Value.ref l)) _ _ s
  refine wpAny_pure ?_
  refine wpAny_bind (wpAny_isInstance (T := T) ⟨o, ho, hc⟩ hs ?_)
  simp only [Bool.not_false, if_true]
  wp_walk
  exact ⟨_, rfl, ‹_›⟩
theorem eqAt_list_dict {P : Program} {w : World} {l b : Addr} {items : Array Value} {kvs : List (Key × Value)} (hl : s.heap.IsList l items) (da : s.heap.DictOf (mixKind P w) b kvs) (hu : A.units < cLine) : SeqAt.EqAt A s (.ref l) (.ref b) false := by
  obtain ⟨⟨cls, dd, data, sl⟩, ho, hc, n, hd⟩ := id hl
  obtain ⟨⟨cls2, dd2, data2, sl2⟩, es, ep, ho2, ⟨hc2, h2, h3⟩, hd2, _⟩ := id da
  simp only at hc hd hc2 h2 h3 hd2
  subst hc hd hc2 h2 h3 hd2
  have hne : l ≠ b := fun e => by
    rw [e, ho2] at ho
    have := congrArg Obj.cls (Option.some.inj ho)
    exact absurd (Value.type.inj this) (by decide)
  refine .of_refs hne fun prog w2 E Q h => ?_
  exact SeqAt.rc_eq_decline_or (k := false) ⟨_, ho, rfl⟩ ⟨_, ho2, rfl⟩ (by decide) (by rw [isSubtype_type]; kernel_rfl) F.slot_list_eq PySem.F.slot_dict_eq_refl
    (fun _ hq => call_meets F.slot_list_eq ⟨_, ho, rfl⟩ F.entry_list_eq (F.args_list_eq_2 _ _) (list_declines_dict l b items n dd none sl #[] es ep) ⟨ho, ho2, hq⟩)
    (fun _ hq => dict_declines_seq da ho rfl (by rw [isSubtype_type]; kernel_rfl) hq)
    (fun _ hq => PySem.wpAny_isSame_ref_other hne ho ho2 (by simp) hq) (.inr hu) h
theorem eqAt_tuple_dict {P : Program} {w : World} {l b : Addr} {items : Array Value} {kvs : List (Key × Value)} (hl : s.heap.IsTuple l items) (da : s.heap.DictOf (mixKind P w) b kvs) (hu : A.units < cLine) : SeqAt.EqAt A s (.ref l) (.ref b) false := by
  obtain ⟨⟨cls, dd, data, sl⟩, ho, hc, n, hd⟩ := id hl
  obtain ⟨⟨cls2, dd2, data2, sl2⟩, es, ep, ho2, ⟨hc2, h2, h3⟩, hd2, _⟩ := id da
  simp only at hc hd hc2 h2 h3 hd2
  subst hc hd hc2 h2 h3 hd2
  have hne : l ≠ b := fun e => by
    rw [e, ho2] at ho
    have := congrArg Obj.cls (Option.some.inj ho)
    exact absurd (Value.type.inj this) (by decide)
  refine .of_refs hne fun prog w2 E Q h => ?_
  exact SeqAt.rc_eq_decline_or (k := false) ⟨_, ho, rfl⟩ ⟨_, ho2, rfl⟩ (by decide) (by rw [isSubtype_type]; kernel_rfl) F.slot_tuple_eq PySem.F.slot_dict_eq_refl
    (fun _ hq => call_meets F.slot_tuple_eq ⟨_, ho, rfl⟩ F.entry_tuple_eq (F.args_tuple_eq_2 _ _) (tuple_declines_dict l b items n dd none sl #[] es ep) ⟨ho, ho2, hq⟩)
    (fun _ hq => dict_declines_seq da ho rfl (by rw [isSubtype_type]; kernel_rfl) hq)
    (fun _ hq => SeqAt.wpAny_isSame_ref_other' hne ho ho2 (by simp) hq) (.inr hu) h
end
def noneL : PyData → Bool
  | .list [] => true
  | _ => false
def noneT : PyData → Bool
  | .tuple [] => true
  | _ => false
section
variable {X : Cx} {pins : List (Addr × Obj)} {σ : List (Option V)} {H : Hp} {s : Shared}
theorem eqAt_nil {a : Addr} {v : V} {u : Value} {d : PyData} (I : Inv X pins σ H s) (ha : H a = some (.lst [])) (h : Dx H v d) (r : L2.RelV v u) (hu : X.A.units + 1 < cLine) : SeqAt.EqAt X.A.in1 s (.ref a) u (noneL d) := by
  have hu1 : X.A.in1.units < cLine := by show X.A.units + 1 < cLine; exact hu
  obtain ⟨its0, rv0, p0, _⟩ := I.list (SqL.of (K := X.K) ha)
  cases rv0
  have hl : s.heap.IsList a #[] := p0.isList
  cases h with
  | non => cases r; exact SeqAt.EqAt.list_none hl hu1
  | bl b => cases r; exact SeqAt.EqAt.list_bool b hl hu1
  | int i => obtain ⟨t, rfl⟩ := r; exact SeqAt.EqAt.list_int i t hl hu1
  | str x => obtain ⟨t, rfl⟩ := r; exact SeqAt.EqAt.list_str x t hl hu1
  | @tup b xs ds hs _ =>
    cases r
    obtain ⟨its, rv, p, _⟩ := I.tuple (SqT.of (K := X.K) hs)
    exact SeqAt.EqAt.list_tuple hl p hu1
  | @dic b hs =>
    cases r
    obtain ⟨_, ya, va, ra, da⟩ := (show ObjOk X.prog X.w H s.heap b (.dK []) from I.hok b _ hs)
    exact eqAt_list_dict hl da hu1
  | @lst b xs ds hs al =>
    cases r
    obtain ⟨its, rv, p, _⟩ := I.list (SqL.of (K := X.K) hs)
    have hl' : s.heap.IsList b its.toArray := p.isList
    by_cases hab : a = b
    · subst hab
      rw [ha] at hs
      cases hs
      cases al
      exact SeqAt.EqAt.same _
    · cases rv with
      | nil =>
        cases al
        have := SeqAt.RcAt.lists (e := fun _ => true) hl hl' (by simp) hu1 fun j h1 _ => by simp at h1
        exact SeqAt.EqAt.of_refs hab this
      | cons r1 r2 =>
        cases al with
        | cons a1 a2 => exact SeqAt.EqAt.of_refs hab (SeqAt.RcAt.lists_lengths hl hl' (by simp) hu1)
theorem eqAt_nilT {a : Addr} {v : V} {u : Value} {d : PyData} (I : Inv X pins σ H s) (ha : H a = some (.tup [])) (h : Dx H v d) (r : L2.RelV v u) (hu : X.A.units + 1 < cLine) : SeqAt.EqAt X.A.in1 s (.ref a) u (noneT d) := by
  have hu1 : X.A.in1.units < cLine := by show X.A.units + 1 < cLine; exact hu
  obtain ⟨its0, rv0, p0, _⟩ := I.tuple (SqT.of (K := X.K) ha)
  cases rv0
  have hl : s.heap.IsTuple a #[] := p0
  cases h with
  | non => cases r; exact SeqAt.EqAt.tuple_none hl hu1
  | bl b => cases r; exact SeqAt.EqAt.tuple_bool b hl hu1
  | int i => obtain ⟨t, rfl⟩ := r; exact SeqAt.EqAt.tuple_int i t hl hu1
  | str x => obtain ⟨t, rfl⟩ := r; exact SeqAt.EqAt.tuple_str x t hl hu1
  | @lst b xs ds hs _ =>
    cases r
    obtain ⟨its, rv, p, _⟩ := I.list (SqL.of (K := X.K) hs)
    exact SeqAt.EqAt.tuple_list hl p.isList hu1
  | @dic b hs =>
    cases r
    obtain ⟨_, ya, va, ra, da⟩ := (show ObjOk X.prog X.w H s.heap b (.dK []) from I.hok b _ hs)
    exact eqAt_tuple_dict hl da hu1
  | @tup b xs ds hs al =>
    cases r
    obtain ⟨its, rv, p, _⟩ := I.tuple (SqT.of (K := X.K) hs)
    have hl' : s.heap.IsTuple b its.toArray := p
    by_cases hab : a = b
    · subst hab
      rw [ha] at hs
      cases hs
      cases al
      exact SeqAt.EqAt.same _
    · have key := SeqAt.RcAt.tuples (e := fun _ => true) hl hl' hu1 fun j h1 _ => by simp at h1
      refine SeqAt.EqAt.of_refs hab ?_
      cases rv with
      | nil =>
        cases al
        exact key
      | cons r1 r2 =>
        cases al with
        | cons a1 a2 => simpa [noneT] using key
/-- v in ([], ()) -/
def rInE (K : PySem.W.Frag) : R2 := fun x y H Q => ∃ (t a b : Addr) (d : PyData), y = .ref t ∧ H t = some (.tup [.ref a, .ref b]) ∧ H a = some (.lst []) ∧ H b = some (.tup []) ∧ Dx H x d ∧ Q (.bl (noneL d || noneT d)) H
theorem op_inE {X : Cx} (hu : X.A.units + 64 < cLine) : OpR X (compareOp .In) (rInE X.K) := by
  intro pins s σ H x y v u Q I rx ry h
  obtain ⟨t, a, b, d, rfl, ht, ha, hb, hd, q⟩ := h
  obtain rfl : u = Value.ref t := ry
  obtain ⟨its, rv, p, _⟩ := I.tuple (SqT.of (K := X.K) ht)
  have e : its = [Value.ref a, Value.ref b] := by
    cases rv with
    | cons r1 r2 =>
      cases r2 with
      | cons r3 r4 =>
        cases r4
        cases r1
        cases r3
        rfl
  subst e
  have hne : a ≠ b := fun e => by
    rw [e, hb] at ha
    cases ha
  refine SeqAt.in_tupleAt (fun w => if w = Value.ref a then noneL d else noneT d) p (fun w hw => ?_) ?_
  · have hw' : w = Value.ref a ∨ w = Value.ref b := by simpa using hw
    rcases hw' with rfl | rfl
    · rw [if_pos rfl]
      exact eqAt_nil I ha hd rx (by omega)
    · rw [if_neg fun e => hne (Value.ref.inj e).symm]
      exact eqAt_nilT I hb hd rx (by omega)
  · refine ⟨.bl _, H, I, rfl, ?_⟩
    have ne : ¬ (Value.ref b = Value.ref a) := fun e => hne (Value.ref.inj e).symm
    simpa [ne] using q
end
end Rl
end
section
set_option maxHeartbeats 4000000
/-! own exceptions with an __init__, raised where nothing is handled: their context is None -/
namespace Rl
open PySem PySem.Spec PyProof.Rows L2
section
variable {X : Cx} {e : Expr} {es : List Expr} {ta : TA} {p pos : Pos}
theorem pmk_oexN {CX : CXT} {x : Str} {C fI : Addr} {k : Nat} {fd : FuncData} {ps : List Str} {sp : Sp} {ds : List Value} {dvs : List V} (T : OexC X.K C) (iC : PySem.W.findIn X.K (.ref C) "__init__" = some (some (.ref fI))) (tI : PySem.W.typeIn X.K (.ref fI) = some (.type "function"))
    (F1 : FnOk X.prog X.w X.K X.mg X.base CX k fI fd ps sp) (hr : Room (k + 1) X.A) (hb : Binds X.K fd ps ds) (hd : Vals dvs ds) (hx : Passes CX X (fun _ _ _ => False)) (hg : Gl X x) (hm : X.mg x = some (.ref C)) (ha : PA X (e :: es) ta)
    (hdb : (x == ("__debug__" : Str)) = false := by decide) (he : starEach (e :: es) X.env = (false, eval e X.env) :: starEach es X.env := by rfl) (hpl : (backTo pos (starEach es X.env)).any (·.1) = false := by rfl) :
    L2N.PMk X (.Call (.Name x p) (e :: es) [] pos) (tMkO C sp dvs ta) := by
  intro pins s σ H Q I h
  obtain ⟨nm, q, N, bs, bm, sn, sub, ab, col, dd, k0, k1, k2, k3, k5, hC, hbm⟩ := T.cls
  refine wpAny_Call_Name_kw (ld_glob I hg hm ?_ hdb)
  refine PySem.W.callWith_K (h₀ := X.base) I.ok.mod.kin T.kC (thn (ha.run pos pins s σ H _ I h) fun us s1 ⟨vs, H1, I1, r1, hz, q1⟩ => ⟨I1.kIn, ?_⟩) he hpl
  show wpAny _ _ (call (.ref C) us) _ _ _
  obtain ⟨hp, g, dr, tk, os⟩ := s1
  have hsz : hp.objs.size ≤ hp.objs.size + 1 := Nat.le_succ _
  have hq := q1 (hp.objs.size + 1) (I1.hok.fresh hsz)
  have kk : ∀ b o, hp.get? b = some o → ((hp.push (PySem.W.kdv_tup us)).push (PySem.HandSPX.excO C hp.objs.size)).get? b = some o := fun b o e => Heap.get?_push_of_some _ (Heap.get?_push_of_some _ e)
  have hget : ((hp.push (PySem.W.kdv_tup us)).push (PySem.HandSPX.excO C hp.objs.size)).get? (hp.objs.size + 1) = some (PySem.HandSPX.excO C hp.objs.size) := by heap_get
  have I2 := I1.laid (t' := tk) (a := hp.objs.size + 1) (o := exo (hp.objs.size + 1) C none) (h' := (hp.push (PySem.W.kdv_tup us)).push (PySem.HandSPX.excO C hp.objs.size)) kk hsz (exo_ok hget)
  have r2 : Vals (V.ref (hp.objs.size + 1) :: (vs ++ dvs)) (Value.ref (hp.objs.size + 1) :: (us ++ ds)) := .cons rfl (r1.append hd)
  have hl : (Value.ref (hp.objs.size + 1) :: us ++ ds).length = ps.length := by
    have e := r2.length
    rw [F1.len _ _ _ _ hq] at e
    exact e.symm
  have hus : us.length ≤ sizeLine := by
    rw [← Paired.length r1, sizeLine_eq]
    omega
  refine wpAny_call (PySem.HandSPX.call_own F.excBase_ValueError (fun Y => PySem.HandSPX.refsVE_contains Y bm hbm) (I1.kIn _ _ hC) (PySem.W.looks_findIn I1.kIn iC) (fun self => PySem.W.bind_fn I1.kIn self tI) hus
    (codeAny_mono (F1.run _ X.stack _ _ ⟨Value.ref (hp.objs.size + 1) :: us, []⟩ (Value.ref (hp.objs.size + 1) :: (us ++ ds)) _ _ (fun _ _ _ => False) (hr.make C us []) (I2.env0.make C us []) (hb _ (Value.ref (hp.objs.size + 1) :: us) I2.kIn hl) r2 hq) fun r s' hq' => ?_))
  cases r with
  | error er => exact hx pins σ _ _ er s' I2 hq'
  | ok fl =>
    cases fl with
    | ret u =>
      obtain ⟨v, H2, os2, bare2, un2, hok2, rv, ev, d, fs, ea, ed, hd1, q2⟩ := hq'
      subst ev
      obtain ⟨h2, g2, d2, t2, os'⟩ := s'
      obtain ⟨t0, G, J, kG, ge, hoe, na⟩ := mk_end0 (d2 := d2) (t2 := t2) I1 hsz kk un2 hok2 os2 bare2 ea ed hd1
      exact ⟨rv, _, _, _, ⟨G, g2, d2, t2, os'⟩, _, .ref C, some d, rfl, J, kG, ge, hoe, ⟨rfl, rfl, fun vs e => by cases e; rfl⟩, rfl, rfl, na, rfl, bare2, raises_own T.exC T.tyC, q2⟩
    | next => exact False.elim hq'
    | brk => exact False.elim hq'
    | cont => exact False.elim hq'
end
section
variable {P : Program} {w : World} {K : PySem.W.Frag} {mg : Str → Option Value} {base : Heap}
/-- a def that may raise, the exceptions' context being None -/
theorem okN {x qual : Str} {st : Stmt} {f : Addr} {fd : FuncData} {N ps : List Str} {k : Nat} {sp : Sp} (F : Fun K x qual st f fd) (S : FnScope N ps (defScope st)) (len : ∀ vs H Q E, sp vs H Q E → vs.length = ps.length)
    (hbody : ∀ (cdv : Value) (A : Around) (outer : List Env) (s : Shared) (H : Hp) (vs : List V) (Q : VK) (E : XK), Room k (A.deeper (envOfC qual (defScope st) s.heap.objs.size f cdv)) → sp vs H Q E →
      ∃ t, PSs (cxOf (L2N.CX P w) P w K mg base N qual (defScope st) f cdv A outer s H E) (defBody st) t ∧ t { nx := fun _ H' => Q .non H', rt := Q } (start N vs) H) : FnOk P w K mg base (L2N.CX P w) (k + 1) f fd ps sp := by
  obtain ⟨oc, od, kV, doc, pm, an, cdv, ct, osl, rfl, lk, hcd⟩ := F.ex
  exact fn_of lk hcd S len fun A outer s H vs Q E hr hsp => hbody cdv A outer s H vs Q E hr hsp
end
end Rl
end
section
set_option maxHeartbeats 4000000
namespace Rl
open PySem PySem.Spec PyProof.Rows L2 Nl Nt
/-- data, or a dict of ints by texts -/
def Dy (H : Hp) (v : V) (d : PyData) : Prop := Dx H v d ∨ ∃ (a : Addr) (B : Br), v = .ref a ∧ H a = some (.dK (bk B)) ∧ d = dN B
theorem Dy.same {H H' : Hp} {v : V} {d : PyData} (h : Dy H v d) (s : Same H H') : Dy H' v d :=
  h.imp (Dx.same s d v) fun ⟨a, B, e1, e2, e3⟩ => ⟨a, B, e1, s _ _ e2, e3⟩
def rReprY : List V → Hp → VK → Prop := fun xs H Q => ∃ (v : V) (d : PyData), xs = [v] ∧ Dy H v d ∧ Shw d ∧ Q (.str d.shown) H
theorem call_reprY {X : Cx} (k : SysK X.K) (hg : X.A.guards = some []) (hu : X.A.units + 64 < cLine) : CallR X (.builtin "repr") rReprY := by
  intro pins s σ H xs us Q I r h
  obtain ⟨v, d, rfl, hd, sh, q⟩ := h
  rcases hd with hd | ⟨a, B, rfl, ha, rfl⟩
  · exact call_reprX k hg hu pins s σ H _ us Q I r ⟨v, d, rfl, hd, sh, q⟩
  · obtain ⟨u, rfl, r1⟩ := vals1 r
    cases r1
    obtain ⟨as, rd, nm⟩ := reads_dN I ha
    exact repr_of_reads' rd sh.sh (fun _ => nm) hg (by have := sh.dp; omega) (fun _ _ z => z) (fun h' u tk kk => ⟨.str _, H, I.kept kk, ⟨_, rfl⟩, q⟩) sh.ln
end Rl
namespace Nl
open PySem PySem.Spec PyProof.Rows L2 Nt
theorem xd_sameV {H : Hp} {a dx C : Addr} {fs : List (Str × V)} (na : H a = none) (nd : H dx = none) : Same H (upd (del (upd (upd (upd H a (exo a C none)) dx (exd dx fs)) a (exo a C (some dx))) a) dx (.xd fs)) := fun b o e => by
  have h1 : b ≠ a := ne_of_none e na
  have h2 : b ≠ dx := ne_of_none e nd
  rw [upd_ne h2, del_ne h1, upd_ne h1, upd_ne h2, upd_ne h1]
  exact e
section
variable {P : Program} {w : World} {K : PySem.W.Frag} {mg : Str → Option Value} {base : Heap}
/-- an __init__ that keeps one thing of any kind by the name f -/
def spX1V (C : Addr) (f : Str) : Sp := fun vs H Q _ => ∃ (a : Addr) (v : V), vs = [.ref a, v] ∧ H a = some (exo a C none) ∧
  ∀ dx, H dx = none → dx ≠ a → Q .non (upd (upd H dx (exd dx [(f, v)])) a (exo a C (some dx)))
theorem ok_xNoPond {f C cda cc : Addr} {fd : FuncData} (T : Rl.SuX P K mg C f xNoPond "NoPond.__init__" fd cda cc) (nn : PySem.W.findIn K (.ref C) "name" = some none) : FnOk P w K mg base CX0 1 f fd ["self", "name"] (spX1V C "name") := by
  refine Rl.exi_of (N := ["self", "name", "__class__"]) T rfl rfl (NdefX.nscope_by (by decide +kernel)) rfl (by decide +kernel) (fun vs H Q E h => ?_) (fun A outer s H vs Q E hr h => ?_)
  · obtain ⟨a, y, rfl, _⟩ := h
    rfl
  · obtain ⟨a, v, rfl, ea, q⟩ := h
    refine ⟨a, [v], _, _, rfl, ea, pa_cons pe_str pa_nil, pss_one (ps_ost (pv 0) (pv 1)), ?_⟩
    refine ⟨(by show 1 ≤ 1000; decide), ea, ?_⟩
    exact ⟨v, rfl, .ref a, rfl, a, C, rfl, T.o, nn, .inl ⟨ea, q⟩⟩
/-- no pond of the net -/
def NoPnd (K : PySem.W.Frag) (H : Hp) (B : Br) (v : V) : Prop := Odd K H v ∨ ∃ z, v = .str z ∧ Sm 25 z ∧ (nameB z && decide (z ∈ nms B)) = false
theorem NoPnd.same {K : PySem.W.Frag} {H H' : Hp} {B : Br} {v : V} (h : NoPnd K H B v) (s : Same H H') : NoPnd K H' B v := h.imp (fun o => o.same s) id
def spChkX (K : PySem.W.Frag) (C CR : Addr) : Sp := fun vs H _ E => ∃ (n : Addr) (B : Br) (Pp : Pi) (v : V), vs = [.ref n, v] ∧ NetAt C H n B Pp ∧ NoPnd K H B v ∧
  ∀ (H' : Hp) (d : Addr), Same H H' → H d = none → H' d = some (.xd [("name", v)]) → E (.ref CR) (some d) H'
theorem ok_chkXN {f C CR f1 f2 cda cc : Addr} {fd fd1 fd2 : FuncData} (F : Fun K "check_pond" "Net.check_pond" mNet_check_pond f fd) (T : TxN K mg C)
    (m1 : Meth K C "has_pond" f1) (G1 : FnOk P w K mg base CX0 3 f1 fd1 ["self", "thing"] (spHasT K C)) (b1 : Binds K fd1 ["self", "thing"] [])
    (TX : Rl.SuX P K mg CR f2 xNoPond "NoPond.__init__" fd2 cda cc) (G2 : FnOk P w K mg base CX0 1 f2 fd2 ["self", "name"] (spX1V CR "name")) (b2 : Binds K fd2 ["self", "name"] []) (g2 : mg "NoPond" = some (.ref CR)) :
    FnOk P w K mg base (L2N.CX P w) 4 f fd ["self", "thing"] (spChkX K C CR) := by
  refine Rl.okN F scChk (fun vs H Q E h => ?_) (fun cdv A outer s H vs Q E hr h => ?_)
  · obtain ⟨n, B, Pp, z, rfl, _⟩ := h
    rfl
  · obtain ⟨n, B, Pp, v, rfl, N, no, q⟩ := h
    have hr2 : Room 2 _ := hr.mono (show 2 ≤ 3 by decide)
    obtain ⟨dx, d1, d2, hn, h1, h2⟩ := id N.at_
    refine ⟨_, pss_one (ps_if (pt_not (pt_val (pe_meth (pv 0) T.cl m1 G1 hr b1 .nil pass0 (pa_cons (pv 1) pa_nil)))) (pss_one (L2N.ps_raise rfl (L2N.takes_of (E := E) rfl rfl rfl rfl) (Rl.pmk_oexN TX.o TX.iC TX.tI G2 hr2 b2 .nil pass0 (by rfl) g2 (pa_cons (pv 1) pa_nil)))) pss_nil), ?_⟩
    refine ⟨.ref n, rfl, n, dx, _, rfl, hn, no_attr, v, rfl, ?_⟩
    have go : ∀ H1, Same H H1 → (∀ a, H1 a = none → ∀ dx, upd H1 a (exo a CR none) dx = none → dx ≠ a → E (.ref CR) (some dx) (upd (del (upd (upd (upd H1 a (exo a CR none)) dx (exd dx [("name", v)])) a (exo a CR (some dx))) a) dx (.xd [("name", v)]))) := fun H1 s1 a na dx nd ne => by
      rw [upd_ne ne] at nd
      exact q _ dx (s1.trans (xd_sameV na nd)) (s1.free nd) upd_same
    rcases no with od | ⟨z, rfl, sm, nz⟩
    · refine .inr ⟨n, B, v, rfl, N.rd, od, fun H1 s1 => ⟨false, rfl, iteT ?_⟩⟩
      refine ⟨v, rfl, (by show 1 ≤ 1000; decide), fun a na => ⟨a, v, rfl, upd_same, fun dx nd ne => ⟨rfl, dx, [("name", v)], upd_same, ?_, ?_, ?_⟩⟩⟩
      · rw [upd_ne ne, upd_same]
      · rw [upd_ne ne] at nd
        exact nd
      · exact go H1 s1 a na dx nd ne
    · refine .inl ⟨n, B, z, rfl, N.rd, sm, fun H1 s1 => ?_⟩
      rw [nz]
      refine ⟨false, rfl, iteT ?_⟩
      refine ⟨.str z, rfl, (by show 1 ≤ 1000; decide), fun a na => ⟨a, .str z, rfl, upd_same, fun dx nd ne => ⟨rfl, dx, [("name", .str z)], upd_same, ?_, ?_, ?_⟩⟩⟩
      · rw [upd_ne ne, upd_same]
      · rw [upd_ne ne] at nd
        exact nd
      · exact go H1 s1 a na dx nd ne
/-- Net.ins of what is no pond -/
theorem ok_insXN {f C CR f1 : Addr} {fd fd1 : FuncData} (F : Fun K "ins" "Net.ins" mNet_ins f fd) (T : TxN K mg C) (m1 : Meth K C "check_pond" f1) (G1 : FnOk P w K mg base (L2N.CX P w) 4 f1 fd1 ["self", "thing"] (spChkX K C CR)) (b1 : Binds K fd1 ["self", "thing"] []) :
    FnOk P w K mg base (L2N.CX P w) 5 f fd ["self", "name"] (spChkX K C CR) := by
  refine Rl.okN F scIns (fun vs H Q E h => ?_) (fun cdv A outer s H vs Q E hr h => ?_)
  · obtain ⟨n, B, Pp, z, rfl, _⟩ := h
    rfl
  · obtain ⟨n, B, Pp, v, rfl, N, no, q⟩ := h
    obtain ⟨dx, d1, d2, hn, _⟩ := id N.at_
    refine ⟨_, pss_cons (ps_expr (pe_meth (pv 0) T.cl m1 G1 hr b1 .nil (L2N.passes_call (L2N.takes_of (E := E) rfl rfl rfl rfl) fun _ _ _ _ h => h) (pa_cons (pv 1) pa_nil))) Rl.pss_no, ?_⟩
    exact ⟨.ref n, rfl, n, dx, _, rfl, hn, no_attr, v, rfl, n, B, Pp, v, rfl, N, no, q⟩
end
end Nl
end
section
set_option maxHeartbeats 2000000
namespace Rl
open PySem PySem.Spec PyProof.Rows L2 Nl Nt
/-! ### is any thing in a list of texts -/
section
variable {A : Around} {s : Shared}
theorem eqAt_str_dict {P : Program} {w : World} {l : Addr} {kvs : List (Key × Value)} (b : Str) (u : Tok) (da : s.heap.DictOf (mixKind P w) l kvs) (hu : A.units < cLine) : SeqAt.EqAt A s (.str b u) (.ref l) false := fun prog w2 E Q h => by
  unfold eqBool
  refine wpAny_holding (wpAny_ite_split (fun hab => absurd (eq_of_beq hab) nofun) fun _ => wpAny_bind ?_)
  obtain ⟨⟨cls, dd, data, sl⟩, es, ep, ho, ⟨hc, h2, h3⟩, hd, _⟩ := id da
  simp only at hc h2 h3 hd
  subst hc h2 h3 hd
  exact SeqAt.rc_eq_decline_or (k := false) (typeIs_str s b u) da.typeIs (by decide) PySem.F.sub_dict_str PySem.F.slot_str_eq PySem.F.slot_dict_eq_refl
    (fun _ hq => call_meets PySem.F.slot_str_eq (typeIs_str s b u) PySem.F.entry_str_eq (PySem.F.args_str_eq_2 _ _) (str_eq_declines_dict b u l (.type "dict") es ep none #[]) ⟨ho, hq⟩)
    (fun Q2 hq => by
      refine wpAny_call_entry PySem.F.slot_dict_eq da.typeIs PySem.F.entry_dict_eq ?_ (PySem.F.args_dict_eq_2 _ _)
      show wpAny _ _ (Builtin.Dict.dictSlotArgs "__eq__" ⟨[.ref l, .str b u], []⟩ >>= _) _ _ s
      refine wpAny_bind ?_
      unfold Builtin.Dict.dictSlotArgs
      refine wpAny_bind (wpAny_notOrdered_dict da.typeIs (show wpAny _ _ (pure (Value.ref l, Value.str b u)) _ _ s from wpAny_pure (wpAny_bind (wpAny_isInstance (T := "str") (typeIs_str s b u) PySem.F.sub_str_dict ?_))))
      simp only [Bool.not_false, if_true]
      wp_walk
      exact ⟨_, rfl, ‹_›⟩)
    (fun _ hq => wpAny_of_eq (rfl : isSame (.str b u) (.ref l) = pure false) hq) (.inr hu) (wpAny_truthy_bool h)
end
/-- no text -/
def Nstr (H : Hp) (v : V) : Prop := v = .non ∨ (∃ b, v = .bl b) ∨ (∃ i, v = .int i) ∨ ∃ a, v = .ref a ∧ ((∃ xs, H a = some (.lst xs)) ∨ (∃ xs, H a = some (.tup xs)) ∨ ∃ kvs, H a = some (.dK kvs))
def txtIs : V → Value → Bool
  | .str z => isT z
  | _ => fun _ => false
def rNotInO (K : PySem.W.Frag) : R2 := fun x y H Q => ∃ (l : Addr) (L : List Str), y = .ref l ∧ SqL K H l (L.map V.str) ∧ ((∃ z, x = .str z ∧ Q (.bl (!decide (z ∈ L))) H) ∨ (Nstr H x ∧ Q (.bl true) H))
section
variable {X : Cx} {pins : List (Addr × Obj)} {σ : List (Option V)} {H : Hp} {s : Shared}
theorem eqAt_txt (I : Inv X pins σ H s) {v : V} {u : Value} (r : L2.RelV v u) (h : (∃ z, v = .str z) ∨ Nstr H v) (hu : X.A.units + 1 < cLine) (y : Str) (t : Tok) : SeqAt.EqAt X.A.in1 s (.str y t) u (txtIs v (.str y t)) := by
  have hu1 : X.A.in1.units < cLine := by show X.A.units + 1 < cLine; exact hu
  rcases h with ⟨z, rfl⟩ | rfl | ⟨b, rfl⟩ | ⟨i, rfl⟩ | ⟨a, rfl, ⟨xs, ha⟩ | ⟨xs, ha⟩ | ⟨kvs, ha⟩⟩
  · obtain ⟨t2, rfl⟩ := r
    exact SeqAt.EqAt.str_str y t z t2
  · cases r; exact SeqAt.EqAt.str_none y t
  · cases r; exact SeqAt.EqAt.str_bool y t b
  · obtain ⟨t2, rfl⟩ := r; exact SeqAt.EqAt.str_int y t i t2
  · cases r
    obtain ⟨its, rv, p, _⟩ := I.list (SqL.of (K := X.K) ha)
    exact SeqAt.EqAt.str_list y t p.isList hu1
  · cases r
    obtain ⟨its, rv, p, _⟩ := I.tuple (SqT.of (K := X.K) ha)
    exact SeqAt.EqAt.str_tuple y t p hu1
  · cases r
    obtain ⟨_, ya, va, ra, da⟩ := (show ObjOk X.prog X.w H s.heap a (.dK kvs) from I.hok a _ ha)
    exact eqAt_str_dict y t da hu1
theorem txt_items : ∀ {L : List Str} {us : List Value}, Vals (L.map V.str) us → ∀ y ∈ us, ∃ z t, y = .str z t
  | [], _, .nil => fun y hy => absurd hy List.not_mem_nil
  | z :: L, _, .cons r h => fun y hy => by
    rcases List.mem_cons.mp hy with rfl | hy
    · obtain ⟨t, rfl⟩ := r
      exact ⟨z, t, rfl⟩
    · exact txt_items h y hy
theorem op_notInO (hu : X.A.units + 1 < cLine) : OpR X (compareOp .NotIn) (rNotInO X.K) := by
  intro pins s σ H x y v u Q I rx ry h
  obtain ⟨l, L, rfl, hl, h⟩ := h
  cases (show u = Value.ref l from ry)
  obtain ⟨its, rv, hlist, hlen⟩ := I.list hl
  have ht : (∃ z, x = .str z) ∨ Nstr H x := h.imp (fun ⟨z, e, _⟩ => ⟨z, e⟩) fun q => q.1
  refine SeqAt.notIn_listAt (txtIs x) hlist.isList (fun y hy => ?_) ?_
  · obtain ⟨z, t, rfl⟩ := txt_items rv y (by simpa using hy)
    exact eqAt_txt I rx ht hu z t
  · rw [show its.toArray.any (txtIs x) = its.any (txtIs x) by simp]
    rcases h with ⟨z, rfl, q⟩ | ⟨n, q⟩
    · rw [show its.any (txtIs (.str z)) = decide (z ∈ L) from (any_isT rv).trans (decide_eq_decide.mpr ⟨fun m => by obtain ⟨y, hy, e⟩ := List.mem_map.mp m; cases e; exact hy, fun m => List.mem_map.mpr ⟨z, m, rfl⟩⟩)]
      exact ⟨.bl _, H, I, rfl, q⟩
    · rw [show its.any (txtIs x) = false from List.any_eq_false.mpr fun y _ => by rcases n with rfl | ⟨b, rfl⟩ | ⟨i, rfl⟩ | ⟨a, rfl, _⟩ <;> exact Bool.false_ne_true]
      exact ⟨.bl true, H, I, rfl, q⟩
end
/-! ### repr of a list of two things -/
def rRepr2 : List V → Hp → VK → Prop := fun xs H Q => ∃ (l : Addr) (v t : V) (d e : PyData), xs = [.ref l] ∧ H l = some (.lst [v, t]) ∧ Dy H v d ∧ Dy H t e ∧ Shw (.list [d, e]) ∧ Q (.str (PyData.list [d, e]).shown) H
section
variable {X : Cx} {pins : List (Addr × Obj)} {σ : List (Option V)} {H : Hp} {s : Shared}
theorem Dy.reads (I : Inv X pins σ H s) (n : H sysModules = none) {v : V} {u : Value} {d : PyData} (h : Dy H v d) (r : L2.RelV v u) : ∃ as, Reads s.heap u d as ∧ sysModules ∉ as := by
  rcases h with h | ⟨a, B, rfl, ha, rfl⟩
  · exact Dx.reads I n d v u h r
  · cases r
    obtain ⟨as, rd, nm⟩ := reads_dN I ha
    exact ⟨as, rd, nm⟩
theorem call_repr2 (k : SysK X.K) (hg : X.A.guards = some []) (hu : X.A.units + 64 < cLine) : CallR X (.builtin "repr") rRepr2 := by
  intro pins s σ H xs us Q I r h
  obtain ⟨l, v, t, d, e, rfl, hl, hd, he, sh, q⟩ := h
  obtain ⟨u, rfl, r1⟩ := vals1 r
  cases r1
  have n := sys_noneX I k
  obtain ⟨its, rv, ⟨o, m, ho, hc, _, hdt⟩, _⟩ := I.list (SqL.of (K := X.K) hl)
  obtain ⟨u1, u2, rfl, r1, r2⟩ := vals2 rv
  obtain ⟨a1, q1, n1⟩ := Dy.reads I n hd r1
  obtain ⟨a2, q2, n2⟩ := Dy.reads I n he r2
  have rd := Reads.list ho hc hdt (ReadsAll.cons q1 (ReadsAll.cons q2 ReadsAll.nil))
  have nl : sysModules ≠ l := fun e => by rw [← e, n] at hl; cases hl
  exact repr_of_reads' rd sh.sh (fun _ => by simp [n1, n2, nl]) hg (by have := sh.dp; omega) (fun _ _ z => z) (fun h' u tk kk => ⟨.str _, H, I.kept kk, ⟨_, rfl⟩, q⟩) sh.ln
end
end Rl
end
section
set_option maxHeartbeats 8000000
namespace Nl
open PySem PySem.Spec PyProof.Rows L2 Nt
/-- what the law asks of BadPoured's class -/
structure X34 (K : PySem.W.Frag) (mg : Str → Option Value) (CP CU CW CE CN : Addr) : Prop where
  gP : mg "BadPoured" = some (.ref CP)
  gU : mg "BadCount" = some (.ref CU)
  gW : mg "WaterError" = some (.ref CW)
  gE : mg "StandError" = some (.ref CE)
  gN : mg "NetError" = some (.ref CN)
  fP : XfC K CP
  nP : PySem.W.findIn K (.ref CP) "name" = some none
  xc : ExcC K CP
  kP : PySem.W.kitOne K (.ref CP) (.ref CP) = some true
  kE : PySem.W.kitOne K (.ref CP) (.ref CE) = some true
  kV : PySem.W.kitOne K (.ref CP) (.type "ValueError") = some true
  kU : PySem.W.kitOne K (.ref CP) (.ref CU) = some false
  kN : PySem.W.kitOne K (.ref CP) (.ref CN) = some false
  mW : PySem.W.exmOne K (.ref CP) (.ref CW) = some true
def spRefd (w : World) (K : PySem.W.Frag) (C : Addr) : Sp := fun vs H Q _ => ∃ (n : Addr) (t x : V) (B : Br) (Pp : Pi), vs = [.ref n, t] ∧ NetAt C H n B Pp ∧ Good B Pp ∧ BadO w K H B t x ∧
  ∀ (H' : Hp) (r : Addr), Same H H' → H r = none → H' r = some (.lst [.str "inflow", x]) → Q (.ref r) H'
/-- a table with one wrong row, the last one -/
theorem keys_of (Q7 : Br) : ((bk Q7).map Rl.ofK).map (·.1) = (nms Q7).map NestedKey.text := by
  unfold bk nms
  rw [List.map_map, List.map_map, List.map_map]
  rfl
theorem bad_of {w : World} {K : PySem.W.Frag} {H : Hp} {B Q7 : Br} {r : Addr} {k : NestedKey} {i v : V} (OD : Rl.OddD w H r ((bk Q7).map Rl.ofK ++ [(k, i, v)])) (l7 : Q7.length ≤ 12) (ok7 : ∀ x ∈ Q7, x.1 ∈ nms B ∧ 0 ≤ x.2) (nmB : ∀ z ∈ nms B, Nm z)
    (rk : RowK K H (k, i, v)) (bad : goodR B (k, i, v) = false) {B' : Br} (pm : (nms B').Perm (nms B)) : BadO w K H B' (.ref r) i := by
  have gB : ∀ x : Rw, goodR B' x = goodR B x := fun x => by
    obtain ⟨x1, x2, x3⟩ := x
    cases x1 <;> cases x3 <;> simp [goodR, pm.mem_iff]
  refine .odd OD (by rw [List.length_append, List.length_map, bk_len]; show Q7.length + 1 ≤ 100; omega) (fun x m => ?_) ?_
  · rcases List.mem_append.mp m with m | m
    · obtain ⟨y, hy, rfl⟩ := List.mem_map.mp m
      obtain ⟨u, hu, rfl⟩ := List.mem_map.mp hy
      exact .inl ⟨u.1, rfl, rfl, (nmB u.1 (ok7 u hu).1 : Nm _).sm.mono (by decide), .inl ⟨u.2, rfl⟩⟩
    · rw [List.mem_singleton.mp m]; exact rk
  · have e0 : ((bk Q7).map Rl.ofK).filter (fun x => !goodR B' x) = [] := List.filter_eq_nil_iff.mpr fun x m => by
      obtain ⟨y, hy, rfl⟩ := List.mem_map.mp m
      obtain ⟨u, hu, rfl⟩ := List.mem_map.mp hy
      rw [gB]
      have h1 := ok7 u hu
      show ¬ (!(decide (u.1 ∈ nms B) && decide (u.2 ≥ 0))) = true
      rw [decide_eq_true h1.1, decide_eq_true (show u.2 ≥ 0 from h1.2)]
      decide
    unfold wrongs
    rw [List.filter_append, e0, List.nil_append, List.filter_cons, gB, bad]
    rfl
/-- _law_draw(pot, 3) == 0 or d == {} -/
theorem draw_or {p a : Addr} {B : Br} {σ : L2.St} {H : Hp} {Qc : Bool → Hp → Prop} (σ0 : σ[0]? = some (some (.ref p))) (σ1 : σ[1]? = some (some (.ref a))) (hP : PotAt H p) (ha : H a = some (.dK (bk B))) (nap : a ≠ p)
    (yes : ∀ H5, Kp p H H5 → PotAt H5 p → Qc true H5) (no : ∀ H5, Kp p H H5 → PotAt H5 p → B ≠ [] → Qc false H5) :
    tOr (tTest (tOp rEq (tCall spDraw [] E0 (tCons (tVar 0) (tCons (tC (.int 3)) tNil))) (tC (.int 0)))) (tTest (tOp Rl.rEqE (tVar 1) tDNewK)) σ H Qc := by
  refine ⟨.ref p, σ0, p, 3, rfl, hP, by decide, by decide, fun d H4 k4 hP4 d0 d1 => ?_⟩
  refine ⟨rfl, _, rfl, ite2 (fun c => yes H4 k4 hP4) (fun c => ?_)⟩
  have ha4 := k4 a _ nap ha
  refine ⟨.ref a, σ1, fun e ne => ?_⟩
  have s5 := same_new (o := .dK []) ne
  refine ⟨a, e, bk B, rfl, rfl, s5 _ _ ha4, upd_same, _, rfl, ?_⟩
  have k5 : Kp p H (upd H4 e (.dK [])) := k4.trans (Kp.of_same s5)
  cases B with
  | nil => exact yes _ k5 (hP4.same s5)
  | cons x r => exact no _ k5 (hP4.same s5) (by simp)
/-- d.pop(name, None) -/
theorem pop_or {r : Addr} {z : Str} {Q7 : Br} {σ : L2.St} {H : Hp} {Qv : V → Hp → Prop} {i j : Nat} (σ0 : σ[i]? = some (some (.ref r))) (σ1 : σ[j]? = some (some (.str z))) (hr : H r = some (.dK (bk Q7)))
    (q : ∀ (v : V) (H5 : Hp), (∀ b o, b ≠ r → H b = some o → H5 b = some o) → H5 r = some (.dK (bk (Q7.filter fun x => decide (x.1 ≠ z)))) → Qv v H5) : tDPop2 (tVar i) (tVar j) (tC .non) σ H Qv := by
  refine ⟨.ref r, σ0, r, rfl, .inl ⟨_, .inl hr⟩, .str z, σ1, bk Q7, Sum.inr z, hr, rfl, fun v hv => ?_, fun hn => ?_⟩
  · refine q v _ (fun b o nb e => by rw [upd_ne nb]; exact e) ?_
    rw [upd_same]
    have : dropK (bk Q7) (Sum.inr z : Key) = bk (Q7.filter fun x => decide (x.1 ≠ z)) := by
      unfold dropK bk
      rw [List.filter_map]
      congr 2
      funext x
      simp [Function.comp_def]
    rw [this]
  · refine q .non H (fun b o _ e => e) ?_
    have e : Q7.filter (fun x => decide (x.1 ≠ z)) = Q7 := List.filter_eq_self.mpr fun x m => decide_eq_true fun e => by
      rw [valV_bk] at hn
      obtain ⟨b, hb⟩ := getB_some (B := Q7) (show z ∈ nms Q7 from List.mem_map.mpr ⟨x, m, e⟩)
      rw [hb] at hn
      cases hn
    rw [e]; exact hr
def spBad (w : World) (K : PySem.W.Frag) : Sp := fun vs H Q _ => ∃ (p a c : Addr) (B Qp : Br), vs = [.ref p, .ref a, .ref c] ∧ PotAt H p ∧ H a = some (.dK (bk B)) ∧ H c = some (.dK (bk Qp)) ∧ B.length ≤ 12 ∧ Qp.length ≤ 12 ∧ (nms Qp).Nodup ∧ (∀ z ∈ nms B, Nm z) ∧ (∀ x ∈ Qp, x.1 ∈ nms B ∧ 0 ≤ x.2) ∧
  ∀ (H' : Hp) (t : Addr) (d u : V) (dd : PyData), Kp p H H' → PotAt H' p → H' t = some (.tup [d, u]) → (∀ G, Kp p H' G → (∀ B' : Br, (nms B').Perm (nms B) → BadO w K G B' d u) ∧ Rl.Dx G u dd) → Rl.Smx dd 1 200 → Q (.ref t) H'
/-- an odd key -/
def OddV (B : Br) (o1 : Addr) (v : V) : Prop := ∃ (k : NestedKey) (dd : PyData), Rl.Smx dd 1 200 ∧ (∀ z ∈ nms B, k ≠ .text z) ∧ ∀ (K : PySem.W.Frag) (G : Hp) (x : V), G o1 = some (.tup []) → Rl.KeyV G v k ∧ Rl.Dx G v dd ∧ (ValK K G x → RowK K G (k, v, x)) ∧ goodR B (k, v, x) = false
theorem smx34_none : Rl.Smx .none 1 200 := ⟨rfl, by decide +kernel, by decide +kernel, by decide +kernel⟩
theorem smx34_bool {b : Bool} : Rl.Smx (.bool b) 1 200 := ⟨rfl, by cases b <;> decide +kernel, by cases b <;> decide +kernel, by cases b <;> decide +kernel⟩
theorem odd_txt {B : Br} {o1 : Addr} (nmB : ∀ z ∈ nms B, Nm z) (z : Str) (sm : Sm 25 z) (no : nameB z = false) : OddV B o1 (.str z) := by
  have nz : z ∉ nms B := fun h => by
    have := nmB z h
    rw [show Nm z = (nameB z = true) from rfl, no] at this
    cases this
  refine ⟨.text z, .str z, (Rl.Smx.txt sm).mono (by decide) (by decide), fun y hy e => ?_, fun K G x h => ⟨.str z, .str z, fun vk => .inl ⟨z, rfl, rfl, sm, vk⟩, ?_⟩⟩
  · injection e with e
    exact nz (by rw [e]; exact hy)
  · cases x <;> simp [goodR, nz]
theorem odd_all {B : Br} {o1 : Addr} (nmB : ∀ z ∈ nms B, Nm z) (i : Nat) (v : V) (e : [V.non, .bl true, .str "", .str "A", .int 3, .ref o1, .str "no pond", .int (-1), .str "1"][i]? = some v) : OddV B o1 v := by
  have m := List.mem_of_getElem? e
  simp only [List.mem_cons, List.not_mem_nil, or_false] at m
  rcases m with rfl | rfl | rfl | rfl | rfl | rfl | rfl | rfl | rfl
  · exact ⟨_, _, smx34_none, fun z _ => by simp, fun K G x h => ⟨.non, .non, fun _ => .inr ⟨fun z => by simp, Odd.non⟩, rfl⟩⟩
  · exact ⟨_, _, smx34_bool, fun z _ => by simp, fun K G x h => ⟨.bl true, .bl true, fun _ => .inr ⟨fun z => by simp, Odd.bl⟩, rfl⟩⟩
  · exact odd_txt nmB _ ⟨by decide +kernel, by decide +kernel⟩ (by decide +kernel)
  · exact odd_txt nmB _ ⟨by decide +kernel, by decide +kernel⟩ (by decide +kernel)
  · exact ⟨_, _, ((Rl.Sml.int (i := 3) (by decide)).smx).mono (by decide) (by decide), fun z _ => by simp, fun K G x h => ⟨.int 3, .int 3, fun _ => .inr ⟨fun z => by simp, Odd.int⟩, rfl⟩⟩
  · refine ⟨.tup [], .tuple [], (Rl.Smx.tup (Rl.SmxA.of (k := 0) (m := 0) fun d hd => absurd hd List.not_mem_nil)).mono (by decide) (by decide), fun z _ => by simp, fun K G x h => ⟨?_, .tup h .nil, fun _ => .inr ⟨fun z => by simp, Odd.tup h⟩, rfl⟩⟩
    exact Rl.KeyV.tup (zs := []) h
  · exact odd_txt nmB _ ⟨by decide +kernel, by decide +kernel⟩ (by decide +kernel)
  · exact ⟨_, _, ((Rl.Sml.int (i := -1) (by decide)).smx).mono (by decide) (by decide), fun z _ => by simp, fun K G x h => ⟨.int (-1), .int (-1), fun _ => .inr ⟨fun z => by simp, Odd.int⟩, rfl⟩⟩
  · exact odd_txt nmB _ ⟨by decide +kernel, by decide +kernel⟩ (by decide +kernel)
section
variable {P : Program} {w : World} {K : PySem.W.Frag} {mg : Str → Option Value} {base : Heap}
theorem scRefd : FnScope ["_law_web", "_law_inflow", "_law_told", "e"] ["_law_web", "_law_inflow"] (defScope sRefused) := ⟨rfl, rfl, rfl, by decide +kernel, rfl, by decide +kernel, by decide +kernel⟩
theorem ok_refd {f  C CS : Addr} {fd  : FuncData} {CP CU CW CE CN f_shares : Addr} {fd_shares : FuncData} (F : Fun K "_law_refused" "_law_refused" sRefused f fd) (T : TxN K mg C) (TS : TxS K mg CS) (XB : X34 K mg CP CU CW CE CN) (F_shares : Fun K "shares" "shares" sShares f_shares fd_shares) (GX_shares : FnOk P w K mg base (L2.CX P w) 8 f_shares fd_shares ["net", "poured"] (spSharesX w K C CP)) (b_shares : Binds K fd_shares ["net", "poured"] []) (g_shares : mg "shares" = some (.ref f_shares)) (x_ValueError : mg "ValueError" = none)
    (x_isinstance : mg "isinstance" = none) : FnOk P w K mg base CX0 9 f fd ["_law_web", "_law_inflow"] (spRefd w K C) := by
  refine F.ok scRefd (fun vs H Q E h => ?_) (fun cdv A outer s H vs Q E hr h => ?_)
  · obtain ⟨n, t, x, B, Pp, rfl, _⟩ := h
    rfl
  · obtain ⟨n, t, x, B, Pp, rfl, N, good, bad, q⟩ := h
    refine ⟨_, (pss_cons (ps_set (i := 2) scRefd.nd rfl (by first | exact .inl rfl | exact .inr rfl) (pe_lst (pa_cons pe_str pa_nil)))
      (pss_cons (ps_try_as (i := 3) (c := .ref CW) (tb := fun W => tDrop (tCallS (spSharesX w K C CP) (WE W) (tCons (tVar 0) (tCons (tVar 1) tNil))))
          (ts := fun a cls d => tSeq (tAsg (tLst (tCons (tC (.str "other")) tNil)) (gName 2)) (tIfS (tAnd (tB (tCB (Rl.rIsX K a cls d) (tCons (tVar 3) (tCons (tC (.ref CP)) tNil)))) (tAnd (tB (tCB (Rl.rIsX K a cls d) (tCons (tVar 3) (tCons (tC (.ref CE)) tNil)))) (tB (tCB (Rl.rIsX K a cls d) (tCons (tVar 3) (tCons (tC (.ty "ValueError")) tNil))))))
            (tAsg (tIf (tNot (tB (tCB (Rl.rIsXT K a cls d) (tCons (tVar 3) (tCons (tTup (tCons (tC (.ref CU)) (tCons (tC (.ref CN)) tNil))) tNil))))) (tLst (tCons (tC (.str "inflow")) (tCons (tXf a cls d CP "name" (tVar 3)) tNil))) (tLst (tCons (tC (.str "other")) tNil))) (gName 2)) tNext))
          (Wout := fun _ _ _ _ => False) rfl rfl scRefd.nd rfl rfl ⟨rfl, by decide, Or.inl XB.gW⟩ takes0
          (fun W pn xe tk _ => pss_one (ps_expr (pe_callS GX_shares hr (by rfl) g_shares F_shares.kp b_shares (fun σ => passAt tk σ) (pa_cons (pv 0) (pa_cons (pv 1) pa_nil)))))
          (fun a oe cls d pn hz hf => (pss_cons (ps_set (i := 2) scRefd.nd rfl (Or.inl rfl) (pe_lst (pa_cons pe_str pa_nil)))
            (pss_one (ps_if (PW.pt (pw_and (pt_val (pe_callB (Rl.call_isX hz hf) (by rfl) x_isinstance (by decide +kernel) (pa_cons (pv 3) (pa_cons (pe_glob (v := .ref CP) (by rfl) XB.gP rfl) pa_nil)))) (pw_and (pt_val (pe_callB (Rl.call_isX hz hf) (by rfl) x_isinstance (by decide +kernel) (pa_cons (pv 3) (pa_cons (pe_glob (v := .ref CE) (by rfl) XB.gE rfl) pa_nil)))) (pw_and1 (pt_val (pe_callB (Rl.call_isX hz hf) (by rfl) x_isinstance (by decide +kernel) (pa_cons (pv 3) (pa_cons (pe_bltn (v := .ty "ValueError") (by rfl) x_ValueError (by decide +kernel) rfl) pa_nil))))))))
              (pss_one (ps_set (i := 2) scRefd.nd rfl (Or.inl rfl) (pe_ifExp (pt_not (pt_val (pe_callB (Rl.call_isXT hz hf) (by rfl) x_isinstance (by decide +kernel) (pa_cons (pv 3) (pa_cons (pe_tup (pa_cons (pe_glob (v := .ref CU) (by rfl) XB.gU rfl) (pa_cons (pe_glob (v := .ref CN) (by rfl) XB.gN rfl) pa_nil))) pa_nil))))) (pe_lst (pa_cons pe_str (pa_cons (pe_xf XB.fP XB.nP hz hf (pv 3)) pa_nil))) (pe_lst (pa_cons pe_str pa_nil))))) pss_nil)))))
      (pss_one (ps_ret (pv 2))))), ?_⟩
    refine ⟨line1000 (by show 1 ≤ 1000; decide), fun l nl => ?_⟩
    have s1 := same_new (o := .lst [.str "told"]) nl
    refine ⟨.ref n, rfl, t, rfl, n, t, x, B, Pp, rfl, N.same s1, good, bad.same s1, fun H1 d s2 nd hd => ?_⟩
    have xat : ∀ {G : Hp}, Same H1 G → Rl.XdAt (some d) G := fun g => .inr ⟨d, _, rfl, g _ _ hd⟩
    refine ⟨true, XB.mW, fun _ a na => ?_, fun c => by cases c⟩
    refine ⟨line1000 (by show 1 ≤ 1000; decide), fun l2 nl2 => ?_⟩
    obtain ⟨G1, e1, g1, hl1⟩ : ∃ G, G = upd H1 l2 (.lst [.str "other"]) ∧ Same H1 G ∧ G l2 = some (.lst [.str "other"]) := ⟨_, rfl, same_new nl2, upd_same⟩
    rw [← e1]
    refine ⟨.ref a, rfl, CP, _, _, true, rfl, xat g1, rfl, .own CP, XB.xc, XB.kP, true, rfl, iteT ?_⟩
    refine ⟨.ref a, rfl, CP, _, _, true, rfl, xat g1, rfl, .own CE, XB.xc, XB.kE, true, rfl, iteT ?_⟩
    refine ⟨.ref a, rfl, CP, _, _, true, rfl, xat g1, rfl, .ty _, XB.xc, XB.kV, true, rfl, iteT ?_⟩
    refine ⟨.ref a, rfl, line1000 (by show 2 ≤ 1000; decide), fun tp nt => ?_⟩
    obtain ⟨G2, e2, g2, htp⟩ : ∃ G, G = upd G1 tp (.tup [.ref CU, .ref CN]) ∧ Same G1 G ∧ G tp = some (.tup [.ref CU, .ref CN]) := ⟨_, rfl, same_new nt, upd_same⟩
    rw [← e2]
    refine ⟨CP, tp, _, [.ref CU, .ref CN], false, rfl, xat (g1.trans g2), rfl, htp, .cons (.own _) (.cons (.own _) .nil), XB.xc, kitAny_cons XB.kU (fun _ => kitAny_cons XB.kN (fun _ => kitAny_nil) (fun c => by cases c)) (fun c => by cases c), false, rfl, iteT ?_⟩
    refine ⟨.ref a, rfl, rfl, rfl, d, _, x, rfl, (g1.trans g2) _ _ hd, (by simp [List.lookup]), line1000 (by show 2 ≤ 1000; decide), fun l3 nl3 => ?_⟩
    have s13 := (s1.trans s2).trans (g1.trans g2)
    exact ⟨.ref l3, rfl, q _ l3 (s13.trans (same_new nl3)) (s13.free nl3) upd_same⟩
theorem scBad : FnScope ["_law_pot_here", "_law_brims", "_law_inflow", "_law_odd", "_law_some", "_law_name_here"] ["_law_pot_here", "_law_brims", "_law_inflow"] (defScope s_law_bad) := ⟨rfl, rfl, rfl, by decide +kernel, rfl, by decide +kernel, by decide +kernel⟩
theorem ok_bad {f f_draw C CS : Addr} {fd fd_draw : FuncData} (F : Fun K "_law_bad" "_law_bad" s_law_bad f fd) (T : TxN K mg C) (TS : TxS K mg CS)
    (F_draw : Fun K "_law_draw" "_law_draw" sDraw f_draw fd_draw) (G_draw : FnOk P w K mg base CX0 1 f_draw fd_draw ["_law_pot_here", "_law_many"] spDraw) (b_draw : Binds K fd_draw ["_law_pot_here", "_law_many"] []) (g_draw : mg "_law_draw" = some (.ref f_draw))
    (x_dict : mg "dict" = none)
    (x_len : mg "len" = none)
    (x_sorted : mg "sorted" = none) : FnOk P w K mg base CX0 2 f fd ["_law_pot_here", "_law_brims", "_law_inflow"] (spBad w K) := by
  refine F.ok scBad (fun vs H Q E h => ?_) (fun cdv A outer s H vs Q E hr h => ?_)
  · obtain ⟨p, a, c, B, Qp, rfl, _⟩ := h
    rfl
  · obtain ⟨p, a, c, B, Qp, rfl, hP, ha, hc, lB, lQ, ndQ, nmB, okQ, q⟩ := h
    have hu0 := Nat.lt_of_le_of_lt (Nat.le_add_right _ 64) hr.units
    refine ⟨_, (pss_cons (ps_set (i := 3) scBad.nd rfl (by first | exact .inl rfl | exact .inr rfl) (pe_ix ix_list (pe_lst (pa_cons pe_non (pa_cons pe_bl (pa_cons pe_str (pa_cons pe_str (pa_cons pe_int (pa_cons (pe_tup pa_nil) (pa_cons pe_str (pa_cons (pe_un un_neg pe_int) (pa_cons pe_str pa_nil)))))))))) (pe_call G_draw hr (by rfl) g_draw F_draw.kp b_draw .nil pass0 (pa_cons (pv 0) (pa_cons pe_int pa_nil))) (fun _ _ => rfl)))
      (pss_cons (ps_set (i := 4) scBad.nd rfl (by first | exact .inl rfl | exact .inr rfl) (pe_callTy call_dictD (by rfl) x_dict (by decide +kernel) (pa_cons (pv 2) pa_nil)))
      (pss_cons (ps_if (PW.pt (pw_or (pt_cmpR op_eq (pe_call G_draw hr (by rfl) g_draw F_draw.kp b_draw .nil pass0 (pa_cons (pv 0) (pa_cons pe_int pa_nil))) pe_int (nomark _)) (pw_or1 (pt_cmpR (Rl.op_eqE hu0) (pv 1) pe_dnewK (nomark _))))) (pss_cons (ps_asg (pe_ix ix_list (pe_lst (pa_cons pe_int (pa_cons pe_int (pa_cons (pe_un un_neg pe_int) (pa_cons pe_bl pa_nil))))) (pe_call G_draw hr (by rfl) g_draw F_draw.kp b_draw .nil pass0 (pa_cons (pv 0) (pa_cons pe_int pa_nil))) (fun _ _ => rfl)) (pg_sub (pv 4) (pv 3) (Rl.set_oddK (hu9_of hr))))
        (pss_one (ps_ret (pe_tup (pa_cons (pv 4) (pa_cons (pv 3) pa_nil)))))) pss_nil)
      (pss_cons (ps_set (i := 5) scBad.nd rfl (by first | exact .inl rfl | exact .inr rfl) (pe_ix ix_list (pe_callB (call_sortedD rfl) (by rfl) x_sorted (by decide +kernel) (pa_cons (pv 1) pa_nil)) (pe_call G_draw hr (by rfl) g_draw F_draw.kp b_draw .nil pass0 (pa_cons (pv 0) (pa_cons (pe_callB call_lenD (by rfl) x_len PySem.boot_len (pa_cons (pv 1) pa_nil)) pa_nil))) (fun _ _ => rfl)))
      (pss_cons (ps_expr (pe_dpop2 (pv 4) (pv 5) pe_non ⟨rfl, rfl, rfl, rfl⟩))
      (pss_cons (ps_asg (pe_ix ix_list (pe_lst (pa_cons (pe_un un_neg pe_int) (pa_cons pe_non (pa_cons pe_bl (pa_cons pe_bl (pa_cons pe_str (pa_cons (pe_lst pa_nil) (pa_cons (pe_tup (pa_cons pe_int pa_nil)) (pa_cons (pe_un un_neg (pe_op op_pow pe_int pe_int)) pa_nil))))))))) (pe_call G_draw hr (by rfl) g_draw F_draw.kp b_draw .nil pass0 (pa_cons (pv 0) (pa_cons pe_int pa_nil))) (fun _ _ => rfl)) (pg_sub (pv 4) (pv 5) (Rl.set_oddK (hu9_of hr))))
      (pss_one (ps_ret (pe_tup (pa_cons (pv 4) (pa_cons (pv 5) pa_nil))))))))))), ?_⟩
    have nap : a ≠ p := fun e => by
      obtain ⟨x, y, hp, _⟩ := hP
      rw [← e, ha] at hp; cases hp
    have ncp : c ≠ p := fun e => by
      obtain ⟨x, y, hp, _⟩ := hP
      rw [← e, hc] at hp; cases hp
    -- an odd key
    refine ⟨Nat.zero_le _, fun o1 m1 => ?_⟩
    obtain ⟨G1, eG1, g1, ho1⟩ : ∃ X, X = upd H o1 (.tup []) ∧ Same H X ∧ X o1 = some (.tup []) := ⟨_, rfl, same_new m1, upd_same⟩
    rw [← eG1]; clear eG1
    refine ⟨1, rfl, line1000 (by show 9 ≤ 1000; decide), fun o2 m2 => ?_⟩
    obtain ⟨G2, eG2, g2, ho2⟩ : ∃ X, X = upd G1 o2 (.lst [.non, .bl true, .str "", .str "A", .int 3, .ref o1, .str "no pond", .int (-1), .str "1"]) ∧ Same G1 X ∧ X o2 = some (.lst [.non, .bl true, .str "", .str "A", .int 3, .ref o1, .str "no pond", .int (-1), .str "1"]) := ⟨_, rfl, same_new m2, upd_same⟩
    show tCall spDraw _ _ _ _ (upd G1 o2 (.lst [.non, .bl true, .str "", .str "A", .int 3, .ref o1, .str "no pond", .int (-1), .str "1"])) _
    rw [← eG2]; clear eG2
    have g02 := g1.trans g2
    have hP2 := hP.same g02
    have o2p : o2 ≠ p := (hP.same g1).ne m2
    have o1p : o1 ≠ p := hP.ne m1
    refine ⟨.ref p, rfl, p, 9, rfl, hP2, by decide, by decide, fun d H3 k3 hP3 d0 d1 => ?_⟩
    have d2 : d < 9 := d1
    obtain ⟨v, hv⟩ : ∃ v, [V.non, .bl true, .str "", .str "A", .int 3, .ref o1, .str "no pond", .int (-1), .str "1"][d.toNat]? = some v := ⟨_, List.getElem?_eq_getElem (by show d.toNat < 9; omega)⟩
    obtain ⟨k, dd, smx, nk, facts⟩ := odd_all nmB _ _ hv
    refine ⟨o2, _, d, v, rfl, rfl, SqL.of (k3 _ _ o2p ho2), ?_, ?_⟩
    · rw [show d = ((d.toNat : Nat) : Int) by omega]
      exact atI_nat hv
    have k03 : Kp p H H3 := (Kp.of_same g02).trans k3
    have ho13 : H3 o1 = some (.tup []) := k3 _ _ o1p (g2 _ _ ho1)
    -- a copy
    refine ⟨.ref c, rfl, c, _, rfl, .inl (k03 c _ ncp hc), fun r nr => ?_⟩
    have s4 := same_new (o := .dK (bk Qp)) nr
    have nrH : H r = none := by
      cases e : H r with
      | none => rfl
      | some o =>
        by_cases rp : r = p
        · obtain ⟨x, y, hp, _⟩ := hP3
          rw [rp, hp] at nr; cases nr
        · rw [k03 r _ rp e] at nr; cases nr
    have nrp : r ≠ p := hP3.ne nr
    have nro : o1 ≠ r := ne_of_none ho13 nr
    obtain ⟨H4, eH4, hr4, s34⟩ : ∃ X, X = upd H3 r (.dK (bk Qp)) ∧ X r = some (.dK (bk Qp)) ∧ Same H3 X := ⟨_, rfl, upd_same, s4⟩
    show tSeq _ _ _ _ (upd H3 r (.dK (bk Qp)))
    rw [← eH4]; clear eH4 s4
    have k04 : Kp p H H4 := k03.trans (Kp.of_same s34)
    have hP4 := hP3.same s34
    have ha4 := k04 a _ nap ha
    -- what is set, as the last row
    have fin : ∀ {H7 : Hp} {Q7 : Br} {k : NestedKey} {i x : V} {dd : PyData} {Qr : V → Hp → Prop}, (∀ b o, b ≠ p → b ≠ r → H b = some o → H7 b = some o) → PotAt H7 p → H7 r = some (.dK (bk Q7)) → Q7.length ≤ 12 → (∀ y ∈ Q7, y.1 ∈ nms B ∧ 0 ≤ y.2) →
        (∀ G, (∀ b o, b ≠ r → b ≠ p → H7 b = some o → G b = some o) → RowK K G (k, i, x) ∧ Rl.Dx G i dd) → goodR B (k, i, x) = false → (∀ H' t, Kp p H H' → PotAt H' p → H' t = some (.tup [.ref r, i]) → (∀ G, Kp p H' G → (∀ B' : Br, (nms B').Perm (nms B) → BadO w K G B' (.ref r) i) ∧ Rl.Dx G i dd) → Qr (.ref t) H') →
        ∀ o', Rl.OddD w (upd H7 r (Rl.DN r o')) r ((bk Q7).map Rl.ofK ++ [(k, i, x)]) → ∀ t, (upd H7 r (Rl.DN r o')) t = none → Qr (.ref t) (upd (upd H7 r (Rl.DN r o')) t (.tup [.ref r, i])) := fun {H7 Q7 k i x dd Qr} kp hP7 hr7 l7 ok7 row bad done o' OD t nt => by
      have s9 := same_new (o := .tup [.ref r, i]) nt
      have st : ∀ b o, b ≠ r → H7 b = some o → (upd (upd H7 r (Rl.DN r o')) t (.tup [.ref r, i])) b = some o := fun b o n e => s9 b o (by rw [upd_ne n]; exact e)
      have hP8 : PotAt (upd H7 r (Rl.DN r o')) p := hP7.put nrp
      refine done _ t (fun b o n e => ?_) (hP8.new nt) upd_same (fun G kG => ?_)
      · have nbr : b ≠ r := ne_of_none e nrH
        exact st b o nbr (kp b o n nbr e)
      · obtain ⟨rk, dx⟩ := row G fun b o n n2 e => kG b o n2 (st b o n e)
        have ODG := OD.at_ (H' := G) (fun o e => kG r _ nrp (s9 r _ e)) fun y l e => kG y _ (fun z => by
          obtain ⟨x1, y1, h1, _⟩ := hP8
          rw [z, h1] at e; cases e) (s9 y _ e)
        exact ⟨fun B' pm => bad_of ODG l7 ok7 nmB rk bad pm, dx⟩
    refine draw_or rfl rfl hP4 ha4 nap (fun H5 k5 hP5 => iteT ?_) (fun H5 k5 hP5 nB => iteF ?_)
    · refine ⟨1, rfl, line1000 (by show 4 ≤ 1000; decide), fun l nl => ?_⟩
      obtain ⟨H6, eH6, s56, hl6⟩ : ∃ X, X = upd H5 l (.lst [.int 0, .int 5, .int (-1), .bl true]) ∧ Same H5 X ∧ X l = some (.lst [.int 0, .int 5, .int (-1), .bl true]) := ⟨_, rfl, same_new nl, upd_same⟩
      show tCall spDraw _ _ _ _ (upd H5 l (.lst [.int 0, .int 5, .int (-1), .bl true])) _
      rw [← eH6]; clear eH6
      refine ⟨.ref p, rfl, p, 4, rfl, hP5.same s56, by decide, by decide, fun d2 H7 k7 hP7 d20 d21 => ?_⟩
      have d22 : d2 < 4 := d21
      obtain ⟨x, hx⟩ : ∃ x, [V.int 0, .int 5, .int (-1), .bl true][d2.toNat]? = some x := ⟨_, List.getElem?_eq_getElem (by show d2.toNat < 4; omega)⟩
      have vk : ∀ G : Hp, ValK K G x := fun G => by
        have m := List.mem_of_getElem? hx
        simp only [List.mem_cons, List.not_mem_nil, or_false] at m
        rcases m with rfl | rfl | rfl | rfl
        · exact .inl ⟨_, rfl⟩
        · exact .inl ⟨_, rfl⟩
        · exact .inl ⟨_, rfl⟩
        · exact .inr (.inr ⟨_, rfl⟩)
      have lp : l ≠ p := hP5.ne nl
      have k57 : Kp p H5 H7 := (Kp.of_same s56).trans k7
      have k47 : Kp p H4 H7 := k5.trans k57
      have hr7 := k47 r _ nrp hr4
      have ho17 := k47 o1 _ o1p (s34 _ _ ho13)
      refine ⟨l, _, d2, x, rfl, rfl, SqL.of (k7 _ _ lp hl6), ?_, ?_⟩
      · rw [show d2 = ((d2.toNat : Nat) : Int) by omega]
        exact atI_nat hx
      refine ⟨.ref r, rfl, v, rfl, r, bk Qp, k, rfl, hr7, (facts K H7 x ho17).1, ?_, small1000 (by rw [bk_len]; omega), fun o' OD => ?_⟩
      · rw [keys_of]
        intro m
        obtain ⟨z, hz, e⟩ := List.mem_map.mp m
        obtain ⟨y, hy, ey⟩ := List.mem_map.mp hz
        exact nk z (by rw [← ey]; exact (okQ y hy).1) e.symm
      refine ⟨.ref r, rfl, v, rfl, line1000 (by show 2 ≤ 1000; decide), fun t nt => ?_⟩
      exact fin (fun b o n nr e => k47 b o n (k04 b o n e)) hP7 hr7 lQ okQ (fun G st => ⟨(facts K G x (st _ _ nro o1p ho17)).2.2.1 (vk G), (facts K G x (st _ _ nro o1p ho17)).2.1⟩) (facts K H7 x ho17).2.2.2 (fun H' t k' hP' ht bd => q H' t _ _ dd k' hP' ht bd smx) o' OD t nt
    · have ha5 := k5 a _ nap ha4
      refine ⟨.ref a, rfl, a, bk B, nms B, rfl, .inl ha5, ?_, ?_, fun y1 e1 pm1 so1 ne1 => ?_⟩
      · unfold bk nms; rw [List.map_map, List.map_map]; rfl
      · rw [nms_len]; omega
      obtain ⟨H6, eH6, s56, he1⟩ : ∃ X, X = upd H5 e1 (.lst (y1.map V.str)) ∧ Same H5 X ∧ X e1 = some (.lst (y1.map V.str)) := ⟨_, rfl, same_new ne1, upd_same⟩
      show tCall spDraw _ _ _ _ (upd H5 e1 (.lst (y1.map V.str))) _
      rw [← eH6]; clear eH6
      have lb0 : 0 < B.length := List.length_pos_iff.mpr nB
      refine ⟨.ref p, rfl, .ref a, rfl, a, bk B, rfl, s56 a _ ha5, p, _, rfl, hP5.same s56, by rw [bk_len]; omega, by rw [bk_len]; omega, fun d2 H7 k7 hP7 d20 d21 => ?_⟩
      rw [bk_len] at d21
      have ly : y1.length = B.length := by rw [pm1.length_eq, nms_len]
      obtain ⟨z, hz⟩ : ∃ z, y1[d2.toNat]? = some z := ⟨_, List.getElem?_eq_getElem (by omega)⟩
      have mz : z ∈ nms B := pm1.mem_iff.mp (List.mem_of_getElem? hz)
      have e1p : e1 ≠ p := hP5.ne ne1
      have k57 : Kp p H5 H7 := (Kp.of_same s56).trans k7
      have k47 : Kp p H4 H7 := k5.trans k57
      have hr7 := k47 r _ nrp hr4
      refine ⟨e1, _, d2, .str z, rfl, rfl, SqL.of (k7 _ _ e1p he1), ?_, ?_⟩
      · rw [show d2 = ((d2.toNat : Nat) : Int) by omega]
        exact atI_nat (by rw [List.getElem?_map, hz]; rfl)
      refine pop_or rfl rfl hr7 (fun v5 H8 st8 hr8 => ?_)
      obtain ⟨Q7, hQ7⟩ : ∃ Q7, Q7 = Qp.filter fun x => decide (x.1 ≠ z) := ⟨_, rfl⟩
      rw [← hQ7] at hr8
      have l7 : Q7.length ≤ 12 := by rw [hQ7]; exact Nat.le_trans (List.length_filter_le _ _) lQ
      have ok7 : ∀ x ∈ Q7, x.1 ∈ nms B ∧ 0 ≤ x.2 := fun x hx => by rw [hQ7] at hx; exact okQ x (List.mem_filter.mp hx).1
      have nz7 : ∀ y ∈ nms Q7, NestedKey.text z ≠ .text y := fun y hy e => by
        injection e with e
        obtain ⟨u, hu, eu⟩ := List.mem_map.mp hy
        rw [hQ7] at hu
        have := of_decide_eq_true (List.mem_filter.mp hu).2
        exact this (by rw [e]; exact eu)
      have hP8 : PotAt H8 p := by
        obtain ⟨x, y, h1, h2⟩ := hP7
        exact ⟨x, y, st8 _ _ (Ne.symm nrp) h1, h2⟩
      -- what is no number
      refine ⟨1, rfl, Nat.zero_le _, fun o3 m3 => ?_⟩
      obtain ⟨H9, eH9, s89, ho3⟩ : ∃ X, X = upd H8 o3 (.lst []) ∧ Same H8 X ∧ X o3 = some (.lst []) := ⟨_, rfl, same_new m3, upd_same⟩
      rw [← eH9]; clear eH9
      refine ⟨line1000 (by show 1 ≤ 1000; decide), fun o4 m4 => ?_⟩
      obtain ⟨H10, eH10, s910, ho4⟩ : ∃ X, X = upd H9 o4 (.tup [.int 2]) ∧ Same H9 X ∧ X o4 = some (.tup [.int 2]) := ⟨_, rfl, same_new m4, upd_same⟩
      rw [← eH10]; clear eH10
      refine ⟨10, 39, rfl, rfl, ⟨by decide, by decide, by decide⟩, 10 ^ 39, rfl, line1000 (by show 8 ≤ 1000; decide), fun l nl => ?_⟩
      obtain ⟨H11, eH11, s1011, hl11⟩ : ∃ X, X = upd H10 l (.lst [.int (-1), .non, .bl true, .bl false, .str "3", .ref o3, .ref o4, .int (-(10 ^ 39))]) ∧ Same H10 X ∧ X l = some (.lst [.int (-1), .non, .bl true, .bl false, .str "3", .ref o3, .ref o4, .int (-(10 ^ 39))]) := ⟨_, rfl, same_new nl, upd_same⟩
      show tCall spDraw _ _ _ _ (upd H10 l (.lst [.int (-1), .non, .bl true, .bl false, .str "3", .ref o3, .ref o4, .int (-(10 ^ 39))])) _
      rw [← eH11]; clear eH11
      have s811 := s89.trans (s910.trans s1011)
      have hP11 := hP8.same s811
      have hP10 := hP8.same (s89.trans s910)
      refine ⟨.ref p, rfl, p, 8, rfl, hP11, by decide, by decide, fun d3 H12 k12 hP12 d30 d31 => ?_⟩
      have d32 : d3 < 8 := d31
      obtain ⟨x, hx⟩ : ∃ x, [V.int (-1), .non, .bl true, .bl false, .str "3", .ref o3, .ref o4, .int (-(10 ^ 39))][d3.toNat]? = some x := ⟨_, List.getElem?_eq_getElem (by show d3.toNat < 8; omega)⟩
      have lp : l ≠ p := hP10.ne nl
      have o3p : o3 ≠ p := hP8.ne m3
      have o4p : o4 ≠ p := (hP8.same s89).ne m4
      have ho312 := k12 _ _ o3p ((s910.trans s1011) _ _ ho3)
      have ho412 := k12 _ _ o4p (s1011 _ _ ho4)
      have hr12 := k12 _ _ nrp (s811 _ _ hr8)
      have no3r : o3 ≠ r := Ne.symm (ne_of_none hr8 m3)
      have no4r : o4 ≠ r := Ne.symm (ne_of_none (s89 _ _ hr8) m4)
      have vk : ∀ G : Hp, G o3 = some (.lst []) → G o4 = some (.tup [.int 2]) → ValK K G x ∧ goodR B (.text z, .str z, x) = false := fun G g3 g4 => by
        have m := List.mem_of_getElem? hx
        simp only [List.mem_cons, List.not_mem_nil, or_false] at m
        rcases m with rfl | rfl | rfl | rfl | rfl | rfl | rfl | rfl
        · exact ⟨.inl ⟨_, rfl⟩, by simp [goodR]⟩
        · exact ⟨.inr (.inl ⟨_, .non, kit_ty (by decide +kernel)⟩), rfl⟩
        · exact ⟨.inr (.inr ⟨_, rfl⟩), rfl⟩
        · exact ⟨.inr (.inr ⟨_, rfl⟩), rfl⟩
        · exact ⟨.inr (.inl ⟨_, .str _, kit_ty (by decide +kernel)⟩), rfl⟩
        · exact ⟨.inr (.inl ⟨_, .lst g3, kit_ty (by decide +kernel)⟩), rfl⟩
        · exact ⟨.inr (.inl ⟨_, .tup g4, kit_ty (by decide +kernel)⟩), rfl⟩
        · exact ⟨.inl ⟨_, rfl⟩, by simp [goodR]⟩
      refine ⟨l, _, d3, x, rfl, rfl, SqL.of (k12 _ _ lp hl11), ?_, ?_⟩
      · rw [show d3 = ((d3.toNat : Nat) : Int) by omega]
        exact atI_nat hx
      refine ⟨.ref r, rfl, .str z, rfl, r, bk Q7, .text z, rfl, hr12, .str z, ?_, small1000 (by rw [bk_len]; omega), fun o' OD => ?_⟩
      · rw [keys_of]
        intro m
        obtain ⟨y, hy, e⟩ := List.mem_map.mp m
        exact nz7 y hy e.symm
      refine ⟨.ref r, rfl, .str z, rfl, line1000 (by show 2 ≤ 1000; decide), fun t nt => ?_⟩
      have smz : Sm 25 z := (nmB z mz : Nm _).sm.mono (by decide)
      exact fin (fun b o n nr e => k12 b o n (s811 b o (st8 b o nr (k47 b o n (k04 b o n e))))) hP12 hr12 l7 ok7 (fun G st => ⟨.inl ⟨z, rfl, rfl, smz, (vk G (st _ _ no3r o3p ho312) (st _ _ no4r o4p ho412)).1⟩, .str z⟩) (vk H12 ho312 ho412).2 (fun H' t k' hP' ht bd => q H' t _ _ (.str z) k' hP' ht bd ((Rl.Smx.txt smz).mono (by decide) (by decide))) o' OD t nt
end
end Nl
end
section
set_option maxHeartbeats 8000000
namespace Nl
open PySem PySem.Spec PyProof.Rows L2 Nt
theorem ne_same34 {K : PySem.W.Frag} {H : Hp} {a e : Addr} {l : List Str} {Q : V → Hp → Prop} (ha : H a = some (.lst (l.map V.str))) (he : H e = some (.lst (l.map V.str))) (h : ∀ z ∈ l, Sm 25 z) (q : Q (.bl false) H) : rNeD K (.ref a) (.ref e) H Q := by
  refine ⟨_, _, .lst (SqL.of ha) (dp_strs l), .lst (SqL.of he) (dp_strs l), shaped_strs h, shaped_strs h, ?_⟩
  have aux : ∀ l : List Str, PyData.eqvAll (l.map PyData.str) (l.map PyData.str) = true := fun l => by
    induction l with
    | nil => simp [PyData.eqvAll]
    | cons z l ih => simp [PyData.eqvAll, PyData.eqv, ih]
  have e2 : PyData.eqv (.list (l.map PyData.str)) (.list (l.map PyData.str)) = true := by
    simp [PyData.eqv, aux l]
  rw [e2]
  exact q
/-- a share's top, its bottom -/
def fa (t d : Int) : Nat := t.toNat / Nat.gcd t.toNat d.toNat
def fb (t d : Int) : Nat := d.toNat / Nat.gcd t.toNat d.toNat
theorem fb_ok {t d : Int} (d0 : 0 < d) : 1 ≤ fb t d ∧ fb t d ∣ d.toNat ∧ Nat.gcd (fa t d) (fb t d) = 1 := by
  have g0 : 0 < Nat.gcd t.toNat d.toNat := Nat.gcd_pos_of_pos_right _ (by omega)
  refine ⟨Nat.div_pos (Nat.le_of_dvd (by omega) (Nat.gcd_dvd_right _ _)) g0, Nat.div_dvd_of_dvd (Nat.gcd_dvd_right _ _), ?_⟩
  unfold fa fb
  rw [Nat.gcd_div (Nat.gcd_dvd_left _ _) (Nat.gcd_dvd_right _ _)]
  exact Nat.div_self g0
theorem fa_le (t d : Int) : fa t d ≤ t.toNat := Nat.div_le_self _ _
theorem dvd_big {n : Nat} {d : Int} (d0 : 0 < d) (db : d.natAbs < 2 ^ 2200) (h : n ∣ d.toNat) : ((n : Nat) : Int).natAbs < 2 ^ 2200 := by
  have := Nat.le_of_dvd (by omega) h
  have e : d.toNat = d.natAbs := by omega
  rw [Int.natAbs_natCast]
  omega
/-! ### a share, looked up -/
theorem ls_val {ls : List (Str × Addr)} {z : Str} {q : Addr} (nd : (ls.map Prod.fst).Nodup) (h : (z, q) ∈ ls) : valV (ls.map fun p => ((Sum.inr p.1 : Key), V.ref p.2)) (Sum.inr z) = some (.ref q) := by
  induction ls with
  | nil => exact absurd h List.not_mem_nil
  | cons p r ih =>
    unfold valV
    rw [List.map_cons, List.find?_cons]
    rw [List.map_cons, List.nodup_cons] at nd
    rcases List.mem_cons.mp h with e | e
    · rw [← e]
      simp
    · have ne : p.1 ≠ z := fun e2 => nd.1 (by rw [e2]; exact List.mem_map.mpr ⟨_, e, rfl⟩)
      have : decide (((Sum.inr p.1, V.ref p.2) : Key × V).1 = Sum.inr z) = false := decide_eq_false fun e => ne (Sum.inr.inj e)
      rw [this]
      exact ih nd.2 e
theorem FracAt.get {H : Hp} {D : Addr} {g : Str → Int × Int} {l : List Str} {z : Str} (h : FracAt H D g l) (nd : l.Nodup) (mz : z ∈ l) : ∃ q, DGet H D (.str z) (some (.ref q)) ∧ H q = some (.tup [.int (g z).1, .int (g z).2]) := by
  obtain ⟨ls, a, b, c⟩ := h
  rw [← b] at nd mz
  obtain ⟨p, hp, e⟩ := List.mem_map.mp mz
  have e : p.1 = z := e
  subst e
  exact ⟨p.2, .inl ⟨_, Sum.inr p.1, .inl a, rfl, (ls_val nd hp).symm⟩, c p hp⟩
theorem FracAt.lock {H : Hp} {a D : Addr} {u : List (Key × V)} {g : Str → Int × Int} {l : List Str} (h : FracAt H D g l) (ha : H a = some (.dK u)) (nD : D ≠ a) (x : HO) : FracAt (upd H a x) D g l := by
  obtain ⟨ls, e, b, c⟩ := h
  refine ⟨ls, by rw [upd_ne nD]; exact e, b, fun p hp => ?_⟩
  have := c p hp
  rw [upd_ne (fun z => by rw [z, ha] at this; cases this)]; exact this
def spHold (K : PySem.W.Frag) : Sp := fun vs H Q _ => ∃ (D a b c : Addr) (B : Br) (Pp : Pi) (Qp : Br) (l : List Str) (tops : Str → Int) (d : Int), vs = [.ref D, .ref a, .ref b, .ref c] ∧ FracAt H D (fun z => frac (tops z) d) l ∧ l.Perm (nms B) ∧ H a = some (.dK (bk B)) ∧ H b = some (.dT (pt Pp)) ∧ H c = some (.dK (bk Qp)) ∧ D ≠ a ∧ Good B Pp ∧ Tops B Pp (val0 Qp) tops d ∧ (∀ z ∈ nms B, 0 ≤ val0 Qp z ∧ val0 Qp z ≤ 10 ^ 40) ∧ ∀ H', Same H H' → Q (.bl true) H'
section
variable {P : Program} {w : World} {K : PySem.W.Frag} {mg : Str → Option Value} {base : Heap}
theorem scHold : FnScope ["_law_told", "_law_brims", "_law_pipes", "_law_inflow", "_law_scale", "_law_top", "_law_bottom", "_law_counts", "_law_name_here", "_law_water", "_law_pair"] ["_law_told", "_law_brims", "_law_pipes", "_law_inflow"] (defScope s_law_hold) := ⟨rfl, rfl, rfl, by decide +kernel, rfl, by decide +kernel, by decide +kernel⟩
theorem ok_hold {f f_isShare f_ldiv C CS : Addr} {fd fd_isShare fd_ldiv : FuncData} (F : Fun K "_law_hold" "_law_hold" s_law_hold f fd) (T : TxN K mg C) (TS : TxS K mg CS)
    (F_isShare : Fun K "_law_is_share" "_law_is_share" s_law_is_share f_isShare fd_isShare) (G_isShare : FnOk P w K mg base CX0 2 f_isShare fd_isShare ["_law_thing"] (spIsShare)) (b_isShare : Binds K fd_isShare ["_law_thing"] []) (g_isShare : mg "_law_is_share" = some (.ref f_isShare))
    (F_ldiv : Fun K "_law_divisor" "_law_divisor" s_law_divisor f_ldiv fd_ldiv) (G_ldiv : FnOk P w K mg base CX0 1 f_ldiv fd_ldiv ["_law_one", "_law_other"] (spLDiv)) (b_ldiv : Binds K fd_ldiv ["_law_one", "_law_other"] []) (g_ldiv : mg "_law_divisor" = some (.ref f_ldiv))
    (x_all : mg "all" = none)
    (x_dict : mg "dict" = none)
    (x_isinstance : mg "isinstance" = none)
    (x_sorted : mg "sorted" = none)
    (x_sum : mg "sum" = none) : FnOk P w K mg base CX0 3 f fd ["_law_told", "_law_brims", "_law_pipes", "_law_inflow"] (spHold K) := by
  refine F.ok scHold (fun vs H Q E h => ?_) (fun cdv A outer s H vs Q E hr h => ?_)
  · obtain ⟨D, a, b, c, B, Pp, Qp, l, tops, d, rfl, _⟩ := h
    rfl
  · obtain ⟨D, a, b, c, B, Pp, Qp, l, tops, d, rfl, fr, pm, ha, hb, hc, nDa, good, tp, rq, q⟩ := h
    have hu := hu_of hr
    have hr1 := hr.mono (show 1 ≤ 2 by decide)
    refine ⟨_, (pss_cons (ps_if (PW.pt (pw_or (pt_not (pt_val (pe_callB call_isi (by rfl) x_isinstance (by decide +kernel) (pa_cons (pv 0) (pa_cons (pe_bltn (v := .ty "dict") (by rfl) x_dict (by decide +kernel) rfl) pa_nil))))) (pw_or1 (pt_cmpR (op_neD hr.units) (pe_callB (call_sortedD rfl) (by rfl) x_sorted (by decide +kernel) (pa_cons (pv 0) pa_nil)) (pe_callB (call_sortedD rfl) (by rfl) x_sorted (by decide +kernel) (pa_cons (pv 1) pa_nil)) (nomark _))))) (pss_one (ps_ret pe_bl)) pss_nil)
      (pss_cons (ps_if (pt_not (pt_val (pe_callB (cr_all rfl) (by rfl) x_all (by decide +kernel) (pa_cons (pe_lock (pe_lc (own := [("_law_name_here", 8)]) (g := gName 8) (tt := tYes) (te := (tCall (spIsShare) [] E0 (tCons (tDGet (tVar 0) (tVar 8)) tNil))) rfl scHold.nd (pi_keys (pv 1)) (blkOk_by (N := ["_law_told", "_law_brims", "_law_pipes", "_law_inflow", "_law_scale", "_law_top", "_law_bottom", "_law_counts", "_law_name_here", "_law_water", "_law_pair"]) (sc := defScope s_law_hold) (by decide +kernel)) (fun _ _ _ _ _ => (pg_name (i := 8) scHold.nd rfl (Or.inl rfl))) (fun _ _ _ _ _ => pts_nil) (fun _ _ _ _ _ => (pe_call G_isShare hr (by rfl) g_isShare F_isShare.kp b_isShare .nil pass0 (pa_cons (pe_dget hu (pv 0) (pv 8) (fun _ _ => rfl)) pa_nil))))) pa_nil)))) (pss_one (ps_ret pe_bl)) pss_nil)
      (pss_cons (ps_set (i := 4) scHold.nd rfl (by first | exact .inl rfl | exact .inr rfl) pe_int)
      (pss_cons (ps_lock (ps_for PassesOwn.never rfl (pi_values (pv 0)) (pg_tup rfl (pgs_cons (pg_name (i := 5) scHold.nd rfl (by first | exact .inl rfl | exact .inr rfl)) (pgs_cons (pg_name (i := 6) scHold.nd rfl (by first | exact .inl rfl | exact .inr rfl)) pgs_nil)))
        (pss_one (ps_set (i := 4) scHold.nd rfl (by first | exact .inl rfl | exact .inr rfl) (pe_op op_fdivW (pe_op op_mulW (pv 4) (pv 6)) (pe_call G_ldiv hr1 (by rfl) g_ldiv F_ldiv.kp b_ldiv .nil pass0 (pa_cons (pv 4) (pa_cons (pv 6) pa_nil))))))))
      (pss_cons (ps_set (i := 7) scHold.nd rfl (by first | exact .inl rfl | exact .inr rfl) (pe_callTy (call_dictP rfl) (by rfl) x_dict (by decide +kernel) (pa_cons (pe_lock (pe_lc (own := [("_law_name_here", 8)]) (g := gName 8) (tt := tYes) (te := (tTup (tCons (tVar 8) (tCons (tOp (rI CMulW fun i j => .int (i * j)) (tOp (rIxT K) (tDGet (tVar 0) (tVar 8)) (tC (.int 0))) (tOp (rI CDivW fun i j => .int (i / j)) (tVar 4) (tOp (rIxT K) (tDGet (tVar 0) (tVar 8)) (tC (.int 1))))) tNil)))) rfl scHold.nd (pi_keys (pv 1)) (blkOk_by (N := ["_law_told", "_law_brims", "_law_pipes", "_law_inflow", "_law_scale", "_law_top", "_law_bottom", "_law_counts", "_law_name_here", "_law_water", "_law_pair"]) (sc := defScope s_law_hold) (by decide +kernel)) (fun _ _ _ _ _ => (pg_name (i := 8) scHold.nd rfl (Or.inl rfl))) (fun _ _ _ _ _ => pts_nil) (fun _ _ _ _ _ => (pe_tup (pa_cons (pv 8) (pa_cons (pe_op op_mulW (pe_ix ix_tup (pe_dget hu (pv 0) (pv 8) (fun _ _ => rfl)) pe_int (fun _ _ => rfl)) (pe_op op_fdivW (pv 4) (pe_ix ix_tup (pe_dget hu (pv 0) (pv 8) (fun _ _ => rfl)) pe_int (fun _ _ => rfl)))) pa_nil)))))) pa_nil)))
      (pss_cons (ps_lock (ps_for PassesOwn.never rfl (pi_keys (pv 1)) (pg_name (i := 8) scHold.nd rfl (by first | exact .inl rfl | exact .inr rfl))
        (pss_cons (ps_set (i := 9) scHold.nd rfl (by first | exact .inl rfl | exact .inr rfl) (pe_op op_sub (pe_op op_mulW (pe_dget2 hu (pv 3) (pv 8) pe_int ⟨rfl, rfl, rfl, rfl⟩) (pv 4)) (pe_op op_mul (pe_dget hu (pv 1) (pv 8) (fun _ _ => rfl)) (pe_dget hu (pv 7) (pv 8) (fun _ _ => rfl)))))
        (pss_cons (ps_set (i := 9) scHold.nd rfl (by first | exact .inl rfl | exact .inr rfl) (pe_op op_add (pv 9) (pe_callB (cr_sum rfl) (by rfl) x_sum (by decide +kernel) (pa_cons (pe_lock (pe_lc (own := [("_law_pair", 10)]) (g := gName 10) (tt := (tTest (tOp rEq (tOp (rIxT K) (tVar 10) (tC (.int 1))) (tVar 8)))) (te := (tOp (rI CMul fun i j => .int (i * j)) (tDGet (tVar 2) (tVar 10)) (tDGet (tVar 7) (tOp (rIxT K) (tVar 10) (tC (.int 0)))))) rfl scHold.nd (pi_keys (pv 2)) (blkOk_by (N := ["_law_told", "_law_brims", "_law_pipes", "_law_inflow", "_law_scale", "_law_top", "_law_bottom", "_law_counts", "_law_name_here", "_law_water", "_law_pair"]) (sc := defScope s_law_hold) (by decide +kernel)) (fun _ _ _ _ _ => (pg_name (i := 10) scHold.nd rfl (Or.inl rfl))) (fun _ _ _ _ _ => pts_one (pt_cmpR op_eq (pe_ix ix_tup (pv 10) pe_int (fun _ _ => rfl)) (pv 8) (nomark _))) (fun _ _ _ _ _ => (pe_op op_mul (pe_dget hu (pv 2) (pv 10) (fun _ _ => rfl)) (pe_dget hu (pv 7) (pe_ix ix_tup (pv 10) pe_int (fun _ _ => rfl)) (fun _ _ => rfl)))))) pa_nil))))
        (pss_one (ps_if (PW.pt (pw_or (pt_cmpR op_gt (pv 9) (pe_op op_mul (pe_op op_sub (pe_dget hu (pv 1) (pv 8) (fun _ _ => rfl)) pe_int) (pv 4)) (nomark _)) (pw_or1 (PW.pt (pw_and (pt_cmpR op_gt (pe_dget hu (pv 7) (pv 8) (fun _ _ => rfl)) pe_int (nomark _)) (pw_and1 (pt_cmpR op_lt (pv 9) (pe_op op_mul (pe_op op_sub (pe_dget hu (pv 1) (pv 8) (fun _ _ => rfl)) pe_int) (pv 4)) (nomark _)))))))) (pss_one (ps_ret pe_bl)) pss_nil))))))
      (pss_one (ps_ret pe_bl)))))))), ?_⟩
    have wf := good.wf
    have nd := wf.nb
    have lB := wf.lb
    have d0 := tp.d0
    have db := tp.db
    have ndl : l.Nodup := pm.nodup_iff.mpr nd
    obtain ⟨ls, hls, els, tls⟩ := id fr
    have ll : l.length = B.length := by rw [pm.length_eq, nms_len]
    have lls : ls.length = B.length := by rw [← ll, ← els, List.length_map]
    have ml : ∀ {z : Str}, z ∈ nms B → z ∈ l := fun h => pm.mem_iff.mpr h
    have tb : ∀ {z : Str}, z ∈ nms B → ((fa (tops z) d : Nat) : Int).natAbs < 2 ^ 2200 := fun {z} hz => by
      have h1 := fa_le (tops z) d
      have h2 := tp.tb z hz
      have h3 := tp.t0 z hz
      rw [Int.natAbs_natCast]
      omega
    -- a dict of all ponds
    refine ⟨.ref D, rfl, .ref D, .ty "dict", .type "dict", .type "dict", true, rfl, .ty _, .base (.dK hls), kit_ty (by decide +kernel), true, rfl, iteF ?_⟩
    refine ⟨.ref D, rfl, D, _, l, rfl, .inl hls, ?_, ?_, fun y1 e1 pm1 so1 ne1 => ?_⟩
    · rw [List.map_map, ← els, List.map_map]; rfl
    · omega
    have t1 := same_new (o := .lst (y1.map V.str)) ne1
    refine ⟨.ref a, rfl, a, bk B, nms B, rfl, .inl (t1 a _ ha), ?_, ?_, fun y2 e2 pm2 so2 ne2 => ?_⟩
    · unfold bk nms; rw [List.map_map, List.map_map]; rfl
    · rw [nms_len]; omega
    have t2 := same_new (o := .lst (y2.map V.str)) ne2
    have e12 : y1 = y2 := sorted_uniq (pm1.trans (pm.trans pm2.symm)) so1 so2
    subst e12
    refine ne_same34 (t2 e1 _ upd_same) upd_same (fun z hz => ?_) ⟨false, rfl, iteF ?_⟩
    · have mB := pm2.mem_iff.mp hz
      obtain ⟨u, hu', eu⟩ := List.mem_map.mp mB
      rw [← (show u.1 = z from eu)]; exact ((wf.rb u hu').1 : Nm _).sm.mono (by decide)
    obtain ⟨H1, hH1⟩ : ∃ H1, H1 = upd (upd H e1 (.lst (y1.map V.str))) e2 (.lst (y1.map V.str)) := ⟨_, rfl⟩
    have s1 : Same H H1 := by rw [hH1]; exact t1.trans t2
    rw [← hH1]
    clear hH1 t1 t2 ne1 ne2
    have ha1 := s1 a _ ha
    have fr1 := fr.same s1
    -- shares, all of them
    refine keys_lc (σ := [some (.ref D), some (.ref a), some (.ref b), some (.ref c), none, none, none, none, none, none, none]) (ja := 1) (jv := 8) (fun _ => .bl true) (by omega) ha1 rfl (fun _ => rfl) (fun r od H2 R hm sm rr => ?_) fun L2 H2 s2 nL2 hL2 => ?_
    · have mr : r.1 ∈ nms B := List.mem_map.mpr ⟨r, hm, rfl⟩
      obtain ⟨q1, dg, hq1⟩ := ((fr1.lock ha1 nDa _).same sm).get ndl (ml mr)
      obtain ⟨b1, b2, b3⟩ := fb_ok (t := tops r.1) d0
      exact ⟨.ref D, rfl, .str r.1, rfl, D, .ref q1, rfl, dg, q1, fa (tops r.1) d, fb (tops r.1) d, rfl, hq1, b1, b3, fun H3 s3 => rr H3 s3⟩
    refine ⟨L2, B.map fun _ => true, rfl, SqL.of (by rw [hL2, List.map_map]; rfl), true, congrArg V.bl (by simp), iteF ?_⟩
    have s12 := s1.trans s2
    have ha2 := s12 a _ ha
    have fr2 := fr.same s12
    have hls2 := s12 D _ hls
    -- the common bottom
    obtain ⟨bots, hbots⟩ : ∃ bots, bots = ls.map fun p => fb (tops p.1) d := ⟨_, rfl⟩
    have dv : ∀ x ∈ bots, x ∣ d.toNat := fun x hx => by
      rw [hbots] at hx
      obtain ⟨p, _, e⟩ := List.mem_map.mp hx
      rw [← e]; exact (fb_ok d0).2.1
    have dvt : ∀ i, lcms (bots.take i) ∣ d.toNat := fun i => (lcms_ok _ fun x hx => dv x (List.mem_of_mem_take hx)).1
    refine ⟨D, _, hls2, trivial, fun od => ?_⟩
    refine ⟨.ref D, rfl, D, od, _, rfl, upd_same, ?_⟩
    refine for_it (n := (ls.map fun p => ((Sum.inr p.1 : Key), V.ref p.2)).length) walk_values (fun i σ H3 => ∃ y5 y6, σ = [some (.ref D), some (.ref a), some (.ref b), some (.ref c), some (.int (lcms (bots.take i) : Nat)), y5, y6, none, none, none, none] ∧ Same (upd H2 D (.frz od (.dK (ls.map fun p => ((Sum.inr p.1 : Key), V.ref p.2))))) H3)
      ⟨none, none, rfl, Same.refl _⟩ (fun i σ H3 _ ⟨_, _, _, h⟩ => h D _ upd_same) ?_ ?_
    · rintro i x σ H3 H3' hi ⟨y5, y6, rfl, sm⟩ ⟨rfl, kk, hkk⟩
      rw [List.getElem?_map] at hkk
      obtain ⟨p, hp, e⟩ := Option.map_eq_some_iff.mp hkk
      cases e
      have mp : p ∈ ls := List.mem_of_getElem? hp
      have tq := tls p mp
      have nqD : p.2 ≠ D := fun e => by rw [e, hls] at tq; cases tq
      have tq3 : H3' p.2 = some (.tup [.int (fa (tops p.1) d : Nat), .int (fb (tops p.1) d : Nat)]) := sm _ _ (by rw [upd_ne nqD]; exact s12 _ _ tq)
      have hb1 : bots[i]? = some (fb (tops p.1) d) := by rw [hbots, List.getElem?_map, hp]; rfl
      have snoc : lcms (bots.take (i + 1)) = lcms (bots.take i) * fb (tops p.1) d / Nat.gcd (lcms (bots.take i)) (fb (tops p.1) d) := by
        rw [List.take_add_one, hb1]; exact lcms_snoc _ _
      have g0 : 0 < Nat.gcd (lcms (bots.take i)) (fb (tops p.1) d) := Nat.gcd_pos_of_pos_right _ (fb_ok d0).1
      refine ⟨p.2, _, rfl, SqT.of tq3, rfl, _, _, rfl, _, _, rfl, rfl, ?_⟩
      refine ⟨_, rfl, _, rfl, _, _, rfl, rfl, wide_mul (dvd_big d0 db (dvt i)) (dvd_big d0 db (fb_ok d0).2.1) (by decide) (by decide) (by decide), _, rfl, _, rfl, lcms (bots.take i), fb (tops p.1) d, rfl, fun H4 s4 => ?_⟩
      refine ⟨_, _, rfl, rfl, wide_div (b := 2200) (by omega) (dvd_big d0 db (Nat.dvd_trans (Nat.gcd_dvd_right _ _) (fb_ok d0).2.1)) (by decide) (by decide), ?_⟩
      refine ⟨some (.int (fa (tops p.1) d : Nat)), some (.int (fb (tops p.1) d : Nat)), ?_, sm.trans s4⟩
      rw [snoc, Int.natCast_ediv, Int.natCast_mul]
      rfl
    rintro σ H3 ⟨y5, y6, rfl, sm3⟩
    have tk : bots.take (ls.map fun p => ((Sum.inr p.1 : Key), V.ref p.2)).length = bots := List.take_of_length_le (by rw [hbots, List.length_map, List.length_map]; exact Nat.le_refl _)
    rw [tk]
    obtain ⟨l1, s24⟩ := same_lock hls2 sm3
    refine ⟨l1, ?_⟩
    obtain ⟨H4, hH4⟩ : ∃ H4, H4 = upd H3 D (.dK (ls.map fun p => ((Sum.inr p.1 : Key), V.ref p.2))) := ⟨_, rfl⟩
    rw [← hH4] at s24 ⊢
    clear hH4 sm3 l1
    obtain ⟨hSd, hSb⟩ := lcms_ok bots dv
    obtain ⟨S, hS⟩ : ∃ S, S = lcms bots := ⟨_, rfl⟩
    rw [← hS] at hSd hSb ⊢
    have S0 : 0 < S := Nat.pos_of_dvd_of_pos hSd (by omega)
    have Sb := dvd_big d0 db hSd
    have s04 := s12.trans s24
    have ha4 := s04 a _ ha
    have fr4 := fr.same s04
    have bS : ∀ {z : Str}, z ∈ nms B → fb (tops z) d ∣ S := fun {z} hz => hSb _ (by
      rw [hbots]
      have := ml hz
      rw [← els] at this
      obtain ⟨p, hp, e⟩ := List.mem_map.mp this
      exact List.mem_map.mpr ⟨p, hp, by rw [e]⟩)
    obtain ⟨cnt, hcnt⟩ : ∃ cnt : Str → Int, cnt = fun z => (frac (tops z) d).1 * ((S : Int) / (frac (tops z) d).2) := ⟨_, rfl⟩
    have cnt_ok : ∀ z ∈ nms B, d * cnt z = S * tops z := fun z hz => by
      rw [hcnt]
      exact frac_scale (tp.t0 z hz) d0 (by show ((fb (tops z) d : Nat) : Int).toNat ∣ S; rw [Int.toNat_natCast]; exact bS hz)
    -- the counts
    refine pairs_lc (K := K) (σ := [some (.ref D), some (.ref a), some (.ref b), some (.ref c), some (.int (S : Nat)), y5, y6, none, none, none, none]) (ja := 1) (jv := 8) cnt lB ha4 rfl (fun _ => rfl) (fun _ => rfl) (fun r od H5 R hm smr rr => ?_) fun DL asL H5 s5 nDL hDL hPL => ?_
    · have mr : r.1 ∈ nms B := List.mem_map.mpr ⟨r, hm, rfl⟩
      obtain ⟨q1, dg, hq1⟩ := ((fr4.lock ha4 nDa _).same smr).get ndl (ml mr)
      have hq2 : H5 q1 = some (.tup [.int (fa (tops r.1) d : Nat), .int (fb (tops r.1) d : Nat)]) := hq1
      obtain ⟨b1, b2, b3⟩ := fb_ok (t := tops r.1) d0
      have dB : ((S : Int) / (fb (tops r.1) d : Nat)).natAbs < 2 ^ 2200 := by
        rw [← Int.natCast_ediv, Int.natAbs_natCast]
        rw [Int.natAbs_natCast] at Sb
        have := Nat.div_le_self S (fb (tops r.1) d)
        omega
      refine ⟨.ref D, rfl, .str r.1, rfl, D, .ref q1, rfl, dg, q1, _, 0, _, rfl, rfl, SqT.of hq2, atI_nat (j := 0) rfl, .int (S : Nat), rfl, .ref D, rfl, .str r.1, rfl, D, .ref q1, rfl, dg, q1, _, 1, _, rfl, rfl, SqT.of hq2, atI_nat (j := 1) rfl, _, _, rfl, rfl, wide_div (b := 2200) (by omega) (dvd_big d0 db b2) (by decide) (by decide), _, _, rfl, rfl, wide_mul (tb mr) dB (by decide) (by decide) (by decide), ?_⟩
      have h := rr H5 (Same.refl _)
      rw [hcnt] at h
      exact h
    refine ⟨DL, asL, bk (mapN (nms B) cnt), rfl, SqL.of hDL, paired_of hPL, fun lo nlo => ?_⟩
    have ndL : (nms (mapN (nms B) cnt)).Nodup := by unfold mapN; rw [nms_map]; exact wf.nb
    rw [show mergeK [] (bk (mapN (nms B) cnt)) = bk (mapN (nms B) cnt) from merge_bk _ [] ndL]
    have s56 := same_new (o := .dK (bk (mapN (nms B) cnt))) nlo
    have s06 : Same H (upd H5 lo (.dK (bk (mapN (nms B) cnt)))) := (s04.trans s5).trans s56
    have hlo : (upd H5 lo (.dK (bk (mapN (nms B) cnt)))) lo = some (.dK (bk (mapN (nms B) cnt))) := upd_same
    have nlo2 : lo ≠ a := Ne.symm (ne_of_none ((s04.trans s5) a _ ha) nlo)
    obtain ⟨H6, hH6⟩ : ∃ H6, H6 = upd H5 lo (.dK (bk (mapN (nms B) cnt))) := ⟨_, rfl⟩
    rw [← hH6] at s06 hlo ⊢
    have ha6 := s06 a _ ha
    have hb6 := s06 b _ hb
    have hc6 := s06 c _ hc
    have nba : b ≠ a := fun e => by rw [e, ha] at hb; cases hb
    -- pond by pond
    refine ⟨a, _, ha6, trivial, fun od2 => ?_⟩
    refine ⟨.ref a, rfl, a, od2, rfl, .inl ⟨_, upd_same, ?_⟩⟩
    refine for_it (n := (bk B).length) walk_keys (fun i σ H7 => ∃ y8 y9, σ = [some (.ref D), some (.ref a), some (.ref b), some (.ref c), some (.int (S : Nat)), y5, y6, some (.ref lo), y8, y9, none] ∧ Same (upd H6 a (.frz od2 (.dK (bk B)))) H7)
      ⟨none, none, rfl, Same.refl _⟩ (fun i σ H7 _ ⟨_, _, _, h⟩ => h a _ upd_same) ?_ ?_
    · rintro i x σ H7 H7' hi ⟨y8, y9, rfl, sm⟩ ⟨rfl, kk, vv, hkv, rfl⟩
      obtain ⟨u, hu', rfl, rfl⟩ := bk_at hkv
      have hm := List.mem_of_getElem? hu'
      have mu : u.1 ∈ nms B := List.mem_map.mpr ⟨u, hm, rfl⟩
      have gz := getB_of_mem nd (show (u.1, u.2) ∈ B from hm)
      have vz : val0 B u.1 = u.2 := by unfold val0; rw [gz]; rfl
      obtain ⟨u1, u2⟩ := brim_rng wf mu
      rw [vz] at u1 u2
      have gc : getB (mapN (nms B) cnt) u.1 = some (cnt u.1) := getB_map nd mu
      have ha7 := sm a _ upd_same
      have hb7 := same_off sm nba hb6
      have hlo7 := same_off sm nlo2 hlo
      obtain ⟨rq1, rq2⟩ := rq u.1 mu
      have W2 : (val0 Qp u.1).natAbs < 2 ^ 2200 := by
        have : (10 : Int) ^ 40 < 2 ^ 2200 := by decide +kernel
        have e : ((2 ^ 2200 : Nat) : Int) = 2 ^ 2200 := by decide +kernel
        generalize (2 ^ 2200 : Nat) = v at e ⊢
        generalize (2 ^ 2200 : Int) = v' at this e
        omega
      have cget : Rd H7' c (.dK (bk Qp)) := by
        by_cases e : c = a
        · subst e
          rw [ha6] at hc6
          have e1 := Option.some.inj hc6
          injection e1 with e1
          rw [← e1]
          exact .inr ⟨od2, ha7⟩
        · exact .inl (same_off sm e hc6)
      refine ⟨.ref c, rfl, c, rfl, .inl ⟨_, cget⟩, .str u.1, rfl, _, .inl ⟨_, Sum.inr u.1, cget, rfl, rfl⟩, ?_⟩
      rw [valV_bk, getD_val]
      refine ⟨_, rfl, _, _, rfl, rfl, wide_mul W2 Sb (by decide) (by decide) (by decide), ?_⟩
      have dB : ∀ {H8 : Hp} {R : V → Hp → Prop}, Same H7' H8 → R (.int u.2) H8 → tDGet (tVar 1) (tVar 8) [some (.ref D), some (.ref a), some (.ref b), some (.ref c), some (.int (S : Nat)), y5, y6, some (.ref lo), some (.str u.1), y9, none] H8 R := fun {H8 R} s8 r =>
        ⟨.ref a, rfl, .str u.1, rfl, a, .int u.2, rfl, .inl ⟨_, Sum.inr u.1, .inr ⟨od2, s8 a _ ha7⟩, rfl, by rw [valV_bk, gz]; rfl⟩, r⟩
      refine ⟨.ref a, rfl, .str u.1, rfl, a, .int u.2, rfl, .inl ⟨_, Sum.inr u.1, .inr ⟨od2, ha7⟩, rfl, by rw [valV_bk, gz]; rfl⟩, .ref lo, rfl, .str u.1, rfl, lo, .int (cnt u.1), rfl, .inl ⟨_, Sum.inr u.1, .inl hlo7, rfl, by rw [valV_bk, gc]; rfl⟩, ?_⟩
      refine ⟨_, _, rfl, rfl, .inl ⟨by omega, by omega⟩, _, _, rfl, rfl, ?_⟩
      refine ⟨_, rfl, ?_⟩
      refine pick_ok (K := K) (jp := 2) (jv := 10) (jn := 8) (c := 1) (z := u.1) (fun p => p.1.2) (fun p => .int (p.2 * cnt p.1.1)) at1 wf.lp hb7 rfl (fun _ => rfl) (fun _ => rfl) (fun _ => rfl) (fun p q od H8 R hm sm8 hq r => ?_) fun DS H8 s8 nDS hDS => ?_
      · have rp := wf.rp p hm
        refine width_at wf.np hm sm8 hq rfl rfl ?_
        have nlb : lo ≠ b := fun e => by rw [e, hb6] at hlo; cases hlo
        have hlo8 := same_off sm8 nlb hlo7
        have gp : getB (mapN (nms B) cnt) p.1.1 = some (cnt p.1.1) := getB_map nd rp.1
        refine ⟨.ref lo, rfl, .ref q, rfl, q, _, 0, .str p.1.1, rfl, rfl, SqT.of hq, at0 p, lo, .int (cnt p.1.1), rfl, .inl ⟨_, Sum.inr p.1.1, .inl hlo8, rfl, by rw [valV_bk, gp]; rfl⟩, _, _, rfl, rfl, .inl ⟨?_, ?_⟩, r⟩
        · have := rp.2.2.2.1; omega
        · have := rp.2.2.2.2; omega
      have ha8 := s8 a _ ha7
      have hlo8 := s8 lo _ hlo7
      refine ⟨DS, (Pp.filter fun p => decide (p.1.2 = u.1)).map (fun p => p.2 * cnt p.1.1), rfl, SqL.of (by rw [hDS, List.map_map]; rfl), _, _, rfl, rfl, ?_⟩
      have ew : val0 Qp u.1 * (S : Int) - u.2 * cnt u.1 + ((Pp.filter fun p => decide (p.1.2 = u.1)).map (fun p => p.2 * cnt p.1.1)).sum = val0 Qp u.1 * (S : Int) - aY B Pp cnt u.1 := by
        unfold aY insOf
        rw [List.map_map, vz]
        show _ = val0 Qp u.1 * (S : Int) - (u.2 * cnt u.1 - ((Pp.filter fun p => decide (p.1.2 = u.1)).map (fun p => p.2 * cnt p.1.1)).sum)
        omega
      obtain ⟨k1, k2⟩ := hold_ok wf tp (S := S) (c := cnt) (by omega) cnt_ok mu
      rw [vz] at k1 k2
      rw [← ew] at k1 k2
      refine ⟨_, rfl, .ref a, rfl, .str u.1, rfl, a, .int u.2, rfl, .inl ⟨_, Sum.inr u.1, .inr ⟨od2, ha8⟩, rfl, by rw [valV_bk, gz]; rfl⟩, _, _, rfl, rfl, _, rfl, _, _, rfl, rfl, .inl ⟨by omega, by omega⟩, _, _, rfl, rfl, false, congrArg V.bl (decide_eq_false (by omega)), iteF ?_⟩
      refine ⟨.ref lo, rfl, .str u.1, rfl, lo, .int (cnt u.1), rfl, .inl ⟨_, Sum.inr u.1, .inl hlo8, rfl, by rw [valV_bk, gc]; rfl⟩, _, _, rfl, rfl, _, rfl, ite2 (fun c0 => ?_) (fun c0 => ?_)⟩
      · have c0 := of_decide_eq_true c0
        refine ⟨_, rfl, .ref a, rfl, .str u.1, rfl, a, .int u.2, rfl, .inl ⟨_, Sum.inr u.1, .inr ⟨od2, ha8⟩, rfl, by rw [valV_bk, gz]; rfl⟩, _, _, rfl, rfl, _, rfl, _, _, rfl, rfl, .inl ⟨by omega, by omega⟩, _, _, rfl, rfl, false, congrArg V.bl (decide_eq_false (k2 c0)), iteF ?_⟩
        exact ⟨_, _, rfl, sm.trans s8⟩
      · refine iteF ?_
        exact ⟨_, _, rfl, sm.trans s8⟩
    rintro σ H7 ⟨y8, y9, rfl, sm7⟩
    obtain ⟨l7, s67⟩ := same_lock ha6 sm7
    exact ⟨l7, q _ (s06.trans s67)⟩
end
end Nl
end
section
set_option maxHeartbeats 4000000
namespace Nl
open PySem PySem.Spec PyProof.Rows L2 Nt
/-! ### shares of a table, or of None -/
section
variable {P : Program} {w : World} {K : PySem.W.Frag} {mg : Str → Option Value} {base : Heap}
def spSharesT (C : Addr) : Sp := fun vs H Q _ => ∃ (n : Addr) (t : V) (B : Br) (Pp : Pi) (Qp : Br), vs = [.ref n, t] ∧ NetAt C H n B Pp ∧ Good B Pp ∧ Tab H t B Qp ∧ (∀ x ∈ Qp, x.2 ≤ 2 ^ 2000) ∧
  ∀ (H' : Hp) (D : Addr) (tops : Str → Int) (d : Int), Same H H' → H D = none → FracAt H' D (fun z => frac (tops z) d) (nms B) → Tops B Pp (val0 Qp) tops d → Q (.ref D) H'
theorem ok_sharesT {f CS C f1 f2 f3 fSI : Addr} {fd fd1 fd2 fd3 fdSI : FuncData} {dsS : List Value} (F : Fun K "shares" "shares" sShares f fd) (TS : TxS K mg CS)
    (F1 : Fun K "least_tops" "least_tops" sLeast f1 fd1) (G1 : FnOk P w K mg base CX0 7 f1 fd1 ["net", "waters"] (spLeast C)) (b1 : Binds K fd1 ["net", "waters"] []) (g1 : mg "least_tops" = some (.ref f1))
    (F2 : Fun K "fraction" "fraction" sFrac f2 fd2) (G2 : FnOk P w K mg base CX0 2 f2 fd2 ["top", "bottom"] spFrac) (b2 : Binds K fd2 ["top", "bottom"] []) (g2 : mg "fraction" = some (.ref f2))
    (m3 : Meth K CS "pours" f3) (G3 : FnOk P w K mg base CX0 1 f3 fd3 ["self"] (spPours CS C)) (b3 : Binds K fd3 ["self"] [])
    (MS : Mk K CS fSI) (GSI : FnOk P w K mg base CX0 5 fSI fdSI ["self", "net", "poured", "counts"] (spSInit CS C)) (bSI : Binds K fdSI ["self", "net", "poured", "counts"] dsS) (vSI : Vals [.non] dsS) :
    FnOk P w K mg base CX0 8 f fd ["net", "poured"] (spSharesT C) := by
  refine F.ok scShares (fun vs H Q E h => ?_) (fun cdv A outer s H vs Q E hr h => ?_)
  · obtain ⟨n, t, B, Pp, Qp, rfl, _⟩ := h
    rfl
  · obtain ⟨n, tv, B, Pp, Qp, rfl, N, good, tb, bq, q⟩ := h
    have okp : ∀ x ∈ Qp, x.1 ∈ nms B ∧ 0 ≤ x.2 ∧ x.2 ≤ 2 ^ 2000 := fun x hx => ⟨(tb.ok x hx).1, (tb.ok x hx).2, bq x hx⟩
    have hu := hu_of hr
    have hr1 := hr.mono (show 1 ≤ 7 by decide)
    have hr2 := hr.mono (show 2 ≤ 7 by decide)
    have hr6 := hr.mono (show 6 ≤ 7 by decide)
    refine ⟨_, pss_cons (ps_asg (pe_call G1 hr (by rfl) g1 F1.kp b1 .nil pass0 (pa_cons (pv 0) (pa_cons (pe_meth0 (pe_make MS GSI hr6 (by rfl) TS.mgC bSI vSI pass0 (pa_cons (pv 0) (pa_cons (pv 1) pa_nil))) TS.cl m3 G3 hr1 b3 .nil pass0) pa_nil))) (pg_tup rfl (pgs_cons (pg_name (i := 2) scShares.nd rfl (by first | exact .inl rfl | exact .inr rfl)) (pgs_cons (pg_name (i := 3) scShares.nd rfl (by first | exact .inl rfl | exact .inr rfl)) pgs_nil))))
      (pss_one (ps_ret (pe_lock (Rl.pe_dcP (T := .dK []) (own := [("name", 4)]) (g := gName 4) (tt := tYes) (.inr rfl) hr rfl scShares.nd (pi_keys (pv 2))
        (blkOk_by (N := ["net", "poured", "tops", "bottom", "name"]) (sc := defScope sShares) (by decide +kernel)) (fun _ _ _ _ _ => pg_name (i := 4) scShares.nd rfl (Or.inl rfl)) (fun _ _ _ _ _ => pts_nil) (fun _ _ _ _ _ => pv 4)
        (fun _ _ _ _ _ => pe_call G2 hr2 (by rfl) g2 F2.kp b2 .nil pass0 (pa_cons (pe_dget hu (pv 2) (pv 4) (fun _ _ => rfl)) (pa_cons (pv 3) pa_nil))))))), ?_⟩
    have wf := good.wf
    have lB := wf.lb
    refine ⟨.ref n, rfl, .ref n, rfl, tv, rfl, fun x dx nx ndx nex => ?_⟩
    have s1 : Same H (upd (upd H dx (.own x)) x (.ins CS dx [])) := fun y o e => by
      rw [upd_ne (ne_of_none e nx), upd_ne (ne_of_none e ndx)]; exact e
    refine ⟨x, dx, n, tv, .non, B, Pp, Qp, [], rfl, upd_same, N.same s1, good, tb.same s1, ⟨.inl ⟨rfl, rfl⟩, List.nodup_nil, Nat.zero_le _, fun y hy => absurd hy List.not_mem_nil⟩, fun H2 SA W2 kp2 => ⟨rfl, ?_⟩⟩
    have s2 : Same H H2 := fun y o e => kp2 y o (s1 y o e) (ne_of_none e nx)
    obtain ⟨dx2, n2, d1, d2, hs, _, _, _⟩ := SA.at_
    have fF : Full B (fill B Qp) := fill_full _ _
    have ndF : (nms (fill B Qp)).Nodup := by rw [fF.nm]; exact wf.nb
    have lF : (fill B Qp).length ≤ 12 := by
      have : (nms (fill B Qp)).length = (nms B).length := by rw [fF.nm]
      rw [nms_len, nms_len] at this
      omega
    refine ⟨x, dx2, _, rfl, hs, sf_no, x, B, Pp, _, _, rfl, SA, ndF, lF, fun H3 wa s3 nwa hwa => ?_⟩
    have s03 := s2.trans s3
    have vF : ∀ z ∈ nms B, val0 (fill B Qp) z = val0 Qp z := fun z hz => val0_fill wf.nb hz
    have rng : ∀ z ∈ nms B, -(2 ^ 2000) ≤ val0 (fill B Qp) z ∧ val0 (fill B Qp) z ≤ 2 ^ 2000 := fun z hz => by
      rw [vF z hz]
      have p2 : (0 : Int) ≤ 2 ^ 2000 := by decide +kernel
      cases hg : getB Qp z with
      | none =>
        have : val0 Qp z = 0 := by unfold val0; rw [hg]; rfl
        omega
      | some v =>
        have h1 := (okp _ (getB_mem hg)).2
        have : val0 Qp z = v := by unfold val0; rw [hg]; rfl
        have h2 : 0 ≤ v ∧ v ≤ 2 ^ 2000 := h1
        omega
    refine ⟨n, wa, B, Pp, _, rfl, N.same s03, good, hwa, fF, rng, fun H4 t D tops d s4 nD ht hD tp => ?_⟩
    refine ⟨t, [.ref D, .int d], rfl, SqT.of ht, rfl, .ref D, [.int d], rfl, .int d, [], rfl, rfl, ?_⟩
    have s04 := s03.trans s4
    have nmM : nms (mapN (nms B) tops) = nms B := by unfold mapN; rw [nms_map]
    have nDH : H D = none := s03.free nD
    refine ⟨D, _, hD, trivial, fun od => ?_⟩
    refine ⟨.ref D, rfl, D, od, rfl, .inl ⟨_, upd_same, fun R nR => ?_⟩⟩
    refine frac_dc (B := mapN (nms B) tops) (g := fun z => frac (tops z) d) (by rw [nmM]; exact wf.nb) (by rw [← nms_len, nmM, nms_len]; exact lB) upd_same nR (fun z => rfl) (fun z => rfl) (fun z Ha Rr mz sa h => ?_) (fun Ha Fa sa => ?_)
    · rw [nmM] at mz
      have gz : getB (mapN (nms B) tops) z = some (tops z) := getB_map wf.nb mz
      have t0 := tp.t0 z mz
      have d0 := tp.d0
      have db := tp.db
      refine ⟨.ref D, rfl, .str z, rfl, D, .int (tops z), rfl, .inl ⟨_, Sum.inr z, .inr ⟨od, sa D _ upd_same⟩, rfl, by rw [valV_bk, gz]; rfl⟩, .int d, rfl, (tops z).toNat, d.toNat, by rw [Int.toNat_of_nonneg t0, Int.toNat_of_nonneg (by omega)]; rfl, by omega, by omega, fun H5 p s5 np hp5 => ?_⟩
      exact h H5 p s5 np hp5
    · obtain ⟨l1, s5⟩ := same_lock hD sa
      refine ⟨l1, ?_⟩
      have Fb := Fa.unlock l1
      rw [nmM] at Fb
      refine q _ R tops d (s04.trans s5) ?_ Fb ⟨tp.d0, tp.db, tp.t0, tp.tb, fun y y0 hy => tp.least y y0 fun z hz => by rw [vF z hz]; exact hy z hz, fun z hz => by rw [← vF z hz]; exact tp.ok z hz, fun e y e0 y0 hy => tp.far e y e0 y0 fun z hz => by rw [vF z hz]; exact hy z hz⟩
      have nRD : R ≠ D := fun e => by rw [e, upd_same] at nR; cases nR
      rw [upd_ne nRD] at nR
      exact s04.free nR
end
end Nl
end
section
set_option maxHeartbeats 2000000
namespace Rl
open PySem PySem.Spec PyProof.Rows L2
section
variable {X : Cx}
/-- two dicts hold equal data by equal keys -/
def SameDD (K : PySem.W.Frag) (H : Hp) (ks ls : List (Key × V)) : Prop := ks.length = ls.length ∧ ∀ p ∈ ks, ∃ u d e, valV ls p.1 = some u ∧ Dp K H p.2 d ∧ Dp K H u e ∧ SeqAt.shaped d = true ∧ SeqAt.shaped e = true ∧ PyData.eqv d e = true
theorem hits_dd {pins : List (Addr × Obj)} {s : Shared} {σ : L2.St} {H : Hp} (I : L2.Inv X pins σ H s) (hu : X.A.in1.units + 64 < cLine) {kvs : List (Key × V)} {vb : List (Key × Value)} (rb : KV kvs vb) {ks : List (Key × V)} {va : List (Key × Value)} (ra : KV ks va) :
    (∀ p ∈ ks, ∃ u d e, valV kvs p.1 = some u ∧ Dp X.K H p.2 d ∧ Dp X.K H u e ∧ SeqAt.shaped d = true ∧ SeqAt.shaped e = true ∧ PyData.eqv d e = true) → PySem.W.KeqHits X.A.in1 s vb va true := by
  unfold KV at ra
  induction ra with
  | nil => intro _; exact .nil
  | @cons p q ps qs h t ih =>
    intro hp
    obtain ⟨h1, h2⟩ := h
    obtain ⟨u, d, e, ev, hd, he, sd, se, eq⟩ := hp p List.mem_cons_self
    have rr : RelO (some u) (valueAt vb p.1) := by rw [← ev]; exact rb.val p.1
    obtain ⟨y, hy, ry⟩ := rr.some_of
    obtain ⟨k, v⟩ := q
    have h1' : p.1 = k := h1
    rw [h1'] at hy
    obtain ⟨as, r1⟩ := Dp.reads I d p.2 v hd h2
    obtain ⟨bs, r2⟩ := Dp.reads I e u y he ry
    have z := SeqAt.eqAt_reads d e X.A.in1 s v y as bs r1 r2 (SeqAt.canLay_of_shaped sd) (SeqAt.canLay_of_shaped se) (SeqAt.room_of_shaped sd hu)
    rw [eq] at z
    exact .hit (e := true) (b := true) hy z (ih fun p' hm => hp p' (List.mem_cons_of_mem _ hm))
def rEqDD (K : PySem.W.Frag) : R2 := fun x y H Q => ∃ a b ks ls, x = .ref a ∧ y = .ref b ∧ H a = some (.dK ks) ∧ H b = some (.dK ls) ∧ SameDD K H ks ls ∧ Q (.bl true) H
theorem op_eqDD (hu : X.A.units + 65 < cLine) : OpR X (compareOp .Eq) (rEqDD X.K) := by
  intro pins s σ H x y v u Q I rx ry h
  obtain ⟨a, b, ks, ls, rfl, rfl, ea, eb, ⟨hlen, hp⟩, q⟩ := h
  obtain rfl : v = Value.ref a := rx
  obtain rfl : u = Value.ref b := ry
  obtain ⟨_, ya, va, ra, da⟩ := (show ObjOk X.prog X.w H s.heap a (.dK ks) from I.hok a _ ea)
  obtain ⟨_, yb, vb, rb, db⟩ := (show ObjOk X.prog X.w H s.heap b (.dK ls) from I.hok b _ eb)
  have hl : va.length = vb.length := by rw [← ra.length, ← rb.length]; exact hlen
  exact PySem.W.keq_eq (knd := mixKind X.prog X.w) (r := true) ya yb da db (by omega) (fun _ => hits_dd I (by show X.A.units + 1 + 64 < cLine; omega) rb ra hp) (fin_bl I q (by simp [hl]))
end
end Rl
end
section
set_option maxHeartbeats 2000000
namespace Rl
open PySem PySem.Spec PyProof.Rows L2
section
variable {X : Cx}
/-- != of dicts of data -/
def rNeDD (K : PySem.W.Frag) : R2 := fun x y H Q => ∃ a b ks ls, x = .ref a ∧ y = .ref b ∧ H a = some (.dK ks) ∧ H b = some (.dK ls) ∧ SameDD K H ks ls ∧ Q (.bl false) H
theorem op_neDD (hu : X.A.units + 65 < cLine) : OpR X (compareOp .NotEq) (rNeDD X.K) := by
  intro pins s σ H x y v u Q I rx ry h
  obtain ⟨a, b, ks, ls, rfl, rfl, ea, eb, ⟨hlen, hp⟩, q⟩ := h
  obtain rfl : v = Value.ref a := rx
  obtain rfl : u = Value.ref b := ry
  obtain ⟨_, ya, va, ra, da⟩ := (show ObjOk X.prog X.w H s.heap a (.dK ks) from I.hok a _ ea)
  obtain ⟨_, yb, vb, rb, db⟩ := (show ObjOk X.prog X.w H s.heap b (.dK ls) from I.hok b _ eb)
  have len : va.length = vb.length := by rw [← ra.length, ← rb.length]; exact hlen
  exact PySem.W.keq_ne (knd := mixKind X.prog X.w) (r := true) ya yb da db (by omega) (fun _ => hits_dd I (by show X.A.units + 1 + 64 < cLine; omega) rb ra hp) (fin_bl I q (by simp [len]))
end
end Rl
end
section
set_option maxHeartbeats 8000000
namespace Nl
open PySem PySem.Spec PyProof.Rows L2 Nt
theorem Same.kp34 {H H1 H2 : Hp} {p : Addr} (s : Same H H1) (n : H p = none) (k : Kp p H1 H2) : Same H H2 := fun x o e => k x o (ne_of_none e n) (s x o e)
theorem Same.put34 {H H1 : Hp} {a : Addr} {o : HO} (s : Same H H1) (n : H a = none) : Same H (upd H1 a o) := fun x u e => by rw [upd_ne (ne_of_none e n)]; exact s x u e
theorem aY34 {B B' : Br} {Pp P' : Pi} (nb : (nms B').Nodup) (pB : B'.Perm B) (pP : P'.Perm Pp) (y : Str → Int) (z : Str) : aY B' P' y z = aY B Pp y z := by
  unfold aY
  rw [val0_perm pB nb z, perm_sum ((insOf_perm pP z).map fun p => p.2 * y p.1)]
theorem tops_perm {B B' : Br} {Pp P' : Pi} {W tops : Str → Int} {d : Int} (nb : (nms B').Nodup) (pB : B'.Perm B) (pP : P'.Perm Pp) (tp : Tops B' P' W tops d) : Tops B Pp W tops d := by
  have mm : ∀ z, z ∈ nms B' ↔ z ∈ nms B := fun z => (pB.map Prod.fst).mem_iff
  have v : ∀ z, val0 B' z = val0 B z := fun z => val0_perm pB nb z
  refine ⟨tp.d0, tp.db, fun z hz => tp.t0 z ((mm z).mpr hz), fun z hz => tp.tb z ((mm z).mpr hz), fun y y0 hy z hz => tp.least y (fun x hx => y0 x ((mm x).mp hx)) (fun x hx => ?_) z ((mm z).mpr hz), fun z hz => ?_, fun e y e0 y0 hy z hz => tp.far e y e0 (fun x hx => y0 x ((mm x).mp hx)) (fun x hx => ?_) z ((mm z).mpr hz)⟩
  · rw [v, aY34 nb pB pP]; exact hy x ((mm x).mp hx)
  · have := tp.ok z ((mm z).mpr hz)
    rw [v, aY34 nb pB pP] at this
    exact this
  · rw [v, aY34 nb pB pP]; exact hy x ((mm x).mp hx)
theorem frac_uniq {B : Br} {Pp : Pi} {W tops tops2 : Str → Int} {d d2 : Int} (tp : Tops B Pp W tops d) (tp2 : Tops B Pp W tops2 d2) {z : Str} (hz : z ∈ nms B) : frac (tops z) d = frac (tops2 z) d2 := by
  have h1 := frac_mono hz tp tp2 fun _ _ => Int.le_refl _
  have h2 := frac_mono hz tp2 tp fun _ _ => Int.le_refl _
  obtain ⟨b1, _, g1⟩ := fb_ok (t := tops z) tp.d0
  obtain ⟨c1, _, g2⟩ := fb_ok (t := tops2 z) tp2.d0
  have e : fa (tops z) d * fb (tops2 z) d2 = fa (tops2 z) d2 * fb (tops z) d := by
    have h3 : ((fa (tops z) d : Nat) : Int) * ((fb (tops2 z) d2 : Nat) : Int) ≤ ((fa (tops2 z) d2 : Nat) : Int) * ((fb (tops z) d : Nat) : Int) := h1
    have h4 : ((fa (tops2 z) d2 : Nat) : Int) * ((fb (tops z) d : Nat) : Int) ≤ ((fa (tops z) d : Nat) : Int) * ((fb (tops2 z) d2 : Nat) : Int) := h2
    have h5 := Int.le_antisymm h3 h4
    rw [← Int.natCast_mul, ← Int.natCast_mul] at h5
    exact Int.ofNat.inj h5
  have e1 : fb (tops z) d = fb (tops2 z) d2 := by
    refine Nat.dvd_antisymm ?_ ?_
    · have : Nat.Coprime (fb (tops z) d) (fa (tops z) d) := by rw [Nat.coprime_comm]; exact g1
      exact this.dvd_of_dvd_mul_left (by rw [e]; exact Nat.dvd_mul_left _ _)
    · have : Nat.Coprime (fb (tops2 z) d2) (fa (tops2 z) d2) := by rw [Nat.coprime_comm]; exact g2
      exact this.dvd_of_dvd_mul_left (by rw [← e]; exact Nat.dvd_mul_left _ _)
  have e2 : fa (tops z) d = fa (tops2 z) d2 := by
    rw [← e1] at e
    exact Nat.eq_of_mul_eq_mul_right b1 e
  show (((fa (tops z) d : Nat) : Int), ((fb (tops z) d : Nat) : Int)) = (((fa (tops2 z) d2 : Nat) : Int), ((fb (tops2 z) d2 : Nat) : Int))
  rw [e1, e2]
theorem frac_same {K : PySem.W.Frag} {H : Hp} {D1 D2 : Addr} {g1 g2 : Str → Int × Int} {l : List Str} (nd : l.Nodup) (F1 : FracAt H D1 g1 l) (F2 : FracAt H D2 g2 l) (e : ∀ z ∈ l, g1 z = g2 z) : ∃ ks ls, H D1 = some (.dK ks) ∧ H D2 = some (.dK ls) ∧ Rl.SameDD K H ks ls := by
  obtain ⟨l1, a1, b1, c1⟩ := F1
  obtain ⟨l2, a2, b2, c2⟩ := F2
  refine ⟨_, _, a1, a2, ?_, fun p hp => ?_⟩
  · have h1 := congrArg List.length b1
    have h2 := congrArg List.length b2
    rw [List.length_map] at h1 h2 ⊢
    rw [List.length_map, h1, h2]
  · obtain ⟨u, hu, rfl⟩ := List.mem_map.mp hp
    have mz : u.1 ∈ l := by rw [← b1]; exact List.mem_map.mpr ⟨u, hu, rfl⟩
    have m2 : u.1 ∈ l2.map Prod.fst := by rw [b2]; exact mz
    obtain ⟨x, hx, ex⟩ := List.mem_map.mp m2
    have nd2 : (l2.map Prod.fst).Nodup := by rw [b2]; exact nd
    refine ⟨.ref x.2, .tuple [.int (g1 u.1).1, .int (g1 u.1).2], .tuple [.int (g2 x.1).1, .int (g2 x.1).2], ls_val nd2 (by rw [← ex]; exact hx), .tup (SqT.of (c1 u hu)) (.cons (.int _) (.cons (.int _) .nil)), .tup (SqT.of (c2 x hx)) (.cons (.int _) (.cons (.int _) .nil)), rfl, rfl, ?_⟩
    rw [ex, ← e u.1 mz]
    simp [PyData.eqv, PyData.eqvAll]
theorem and_empty {t3 : TT} {c : Addr} {Qp : Br} {σ : L2.St} {H : Hp} {Qc : Bool → Hp → Prop} (σ5 : σ[5]? = some (some (.ref c))) (hc : H c = some (.dK (bk Qp))) (q : ∀ H6, Same H H6 → Qc false H6)
    (third : ∀ (R : Bool → Hp → Prop), (∀ H6, Same H H6 → R false H6) → ∀ H5, Same H H5 → Qp = [] → t3 σ H5 R) : tAnd (tTest (tOp Rl.rEqE (tVar 5) tDNewK)) t3 σ H Qc := by
  refine ⟨.ref c, σ5, fun e ne => ?_⟩
  have s5 := same_new (o := .dK []) ne
  refine ⟨c, e, bk Qp, rfl, rfl, s5 _ _ hc, upd_same, _, rfl, ?_⟩
  cases Qp with
  | nil => exact third Qc q _ s5 rfl
  | cons x r => exact q _ s5
def spLaw (K : PySem.W.Frag) : Sp := fun vs H Q _ => ∃ (a : Addr) (ns : List Int), vs = [.ref a] ∧ SqL K H a (ns.map V.int) ∧ ns.length ≤ 63 ∧ ∀ H', Q (.bl true) H'
section
variable {P : Program} {w : World} {K : PySem.W.Frag} {mg : Str → Option Value} {base : Heap}
theorem scLaw : FnScope ["_law_script", "_law_k", "_law_pot_here", "_law_brims", "_law_pipes", "_law_inflow", "_law_web", "_law_handed", "_law_told", "_law_kept", "_law_bad_here", "_law_name_here", "_law_odd"] ["_law_script"] (defScope sLaw) := ⟨rfl, rfl, rfl, by decide +kernel, rfl, by decide +kernel, by decide +kernel⟩
theorem ok_law {f f_pot f_lnet f_lpoured f_shares f_hold f_bad f_draw f_refused C CS : Addr} {fd fd_pot fd_lnet fd_lpoured fd_shares fd_hold fd_bad fd_draw fd_refused : FuncData} {dsNet2 : List Value} (F : Fun K "law" "law" sLaw f fd) (T : TxN K mg C) (TS : TxS K mg CS) (k_sys : Rl.SysK K) (kb_shares : KBn K fd_shares ["net", "poured"] 0 ["net", "poured"] (fun us ws => us ++ ws) (fun vs zs => vs ++ zs))
    (F_pot : Fun K "_law_pot" "_law_pot" sPot f_pot fd_pot) (G_pot : FnOk P w K mg base CX0 1 f_pot fd_pot ["_law_script", "_law_k"] (spPot K)) (b_pot : Binds K fd_pot ["_law_script", "_law_k"] []) (g_pot : mg "_law_pot" = some (.ref f_pot))
    (F_lnet : Fun K "_law_net" "_law_net" sNet f_lnet fd_lnet) (G_lnet : FnOk P w K mg base CX0 3 f_lnet fd_lnet ["_law_pot_here", "_law_most", "_law_high"] spNet) (b_lnet : Binds K fd_lnet ["_law_pot_here", "_law_most", "_law_high"] []) (g_lnet : mg "_law_net" = some (.ref f_lnet))
    (F_lpoured : Fun K "_law_poured" "_law_poured" sLPoured f_lpoured fd_lpoured) (G_lpoured : FnOk P w K mg base CX0 2 f_lpoured fd_lpoured ["_law_pot_here", "_law_brims"] spLPoured) (b_lpoured : Binds K fd_lpoured ["_law_pot_here", "_law_brims"] []) (g_lpoured : mg "_law_poured" = some (.ref f_lpoured))
    (MN : Mk K C f_nI) (G_nI : FnOk P w K mg base CX0 5 f_nI fd_nI ["self", "brims", "pipes"] (spNInit C))
    (b_n : Binds K fd_nI ["self", "brims", "pipes"] dsNet2) (v_n : Vals [] dsNet2)
    (F_shares : Fun K "shares" "shares" sShares f_shares fd_shares) (G_shares : FnOk P w K mg base CX0 8 f_shares fd_shares ["net", "poured"] (spSharesT C)) (b_shares : Binds K fd_shares ["net", "poured"] []) (g_shares : mg "shares" = some (.ref f_shares))
    (F_hold : Fun K "_law_hold" "_law_hold" s_law_hold f_hold fd_hold) (G_hold : FnOk P w K mg base CX0 3 f_hold fd_hold ["_law_told", "_law_brims", "_law_pipes", "_law_inflow"] (spHold K)) (b_hold : Binds K fd_hold ["_law_told", "_law_brims", "_law_pipes", "_law_inflow"] []) (g_hold : mg "_law_hold" = some (.ref f_hold))
    (F_bad : Fun K "_law_bad" "_law_bad" s_law_bad f_bad fd_bad) (G_bad : FnOk P w K mg base CX0 2 f_bad fd_bad ["_law_pot_here", "_law_brims", "_law_inflow"] (spBad w K)) (b_bad : Binds K fd_bad ["_law_pot_here", "_law_brims", "_law_inflow"] []) (g_bad : mg "_law_bad" = some (.ref f_bad))
    (F_draw : Fun K "_law_draw" "_law_draw" sDraw f_draw fd_draw) (G_draw : FnOk P w K mg base CX0 1 f_draw fd_draw ["_law_pot_here", "_law_many"] spDraw) (b_draw : Binds K fd_draw ["_law_pot_here", "_law_many"] []) (g_draw : mg "_law_draw" = some (.ref f_draw))
    (F_refused : Fun K "_law_refused" "_law_refused" sRefused f_refused fd_refused) (G_refused : FnOk P w K mg base CX0 9 f_refused fd_refused ["_law_web", "_law_inflow"] (spRefd w K C)) (b_refused : Binds K fd_refused ["_law_web", "_law_inflow"] []) (g_refused : mg "_law_refused" = some (.ref f_refused))
    (x_dict : mg "dict" = none)
    (x_len : mg "len" = none)
    (x_max : mg "max" = none)
    (x_min : mg "min" = none)
    (x_range : mg "range" = none)
    (x_repr : mg "repr" = none) : Rl.FnG P w K mg base CX0 10 f fd ["_law_script"] (spLaw K) := by
  refine Rl.okG F scLaw (fun vs H Q E h => ?_) (fun cdv A outer s H vs Q E hg hr h => ?_)
  · obtain ⟨a, ns, rfl, _⟩ := h
    rfl
  · obtain ⟨a0, ns, rfl, hS, hlen, q⟩ := h
    have hu65 : (A.deeper (envOfC "law" (defScope sLaw) s.heap.objs.size f cdv)).units + 65 < cLine := by
      have := hr.un
      omega
    have hu0 := Nat.lt_of_le_of_lt (Nat.le_add_right _ 64) hr.units
    have hr1 := hr.mono (show 1 ≤ 9 by decide)
    have hr2 := hr.mono (show 2 ≤ 9 by decide)
    have hr3 := hr.mono (show 3 ≤ 9 by decide)
    have hr6 := hr.mono (show 6 ≤ 9 by decide)
    have hr8 := hr.mono (show 8 ≤ 9 by decide)
    refine ⟨_, (pss_cons (ps_for PassesOwn.never rfl (pi_range1 (by rfl) x_range (pa_cons (pe_callB (call_max2 rfl) (by rfl) x_max (by decide +kernel) (pa_cons pe_int (pa_cons (pe_callB (call_min2 rfl) (by rfl) x_min (by decide +kernel) (pa_cons pe_int (pa_cons (pe_callB call_len_seq (by rfl) x_len PySem.boot_len (pa_cons (pv 0) pa_nil)) pa_nil))) pa_nil))) pa_nil)) (pg_name (i := 1) scLaw.nd rfl (by first | exact .inl rfl | exact .inr rfl))
        (pss_cons (ps_set (i := 2) scLaw.nd rfl (by first | exact .inl rfl | exact .inr rfl) (pe_call G_pot hr1 (by rfl) g_pot F_pot.kp b_pot .nil pass0 (pa_cons (pv 0) (pa_cons (pv 1) pa_nil))))
        (pss_cons (ps_asg (pe_call G_lnet hr3 (by rfl) g_lnet F_lnet.kp b_lnet .nil pass0 (pa_cons (pv 2) (pa_cons pe_int (pa_cons pe_int pa_nil)))) (pg_tup rfl (pgs_cons (pg_name (i := 3) scLaw.nd rfl (by first | exact .inl rfl | exact .inr rfl)) (pgs_cons (pg_name (i := 4) scLaw.nd rfl (by first | exact .inl rfl | exact .inr rfl)) pgs_nil))))
        (pss_cons (ps_set (i := 5) scLaw.nd rfl (by first | exact .inl rfl | exact .inr rfl) (pe_call G_lpoured hr2 (by rfl) g_lpoured F_lpoured.kp b_lpoured .nil pass0 (pa_cons (pv 2) (pa_cons (pv 3) pa_nil))))
        (pss_cons (ps_par (i := 6) (j := 7) rfl scLaw.nd rfl rfl (by decide) rfl rfl (pa_cons (pe_make MN G_nI hr6 (by rfl) T.mgC b_n v_n pass0 (pa_cons (pv 3) (pa_cons (pv 4) pa_nil))) (pa_cons (pe_callTy call_dictD (by rfl) x_dict (by decide +kernel) (pa_cons (pv 5) pa_nil)) pa_nil)) (by rfl))
        (pss_cons (ps_set (i := 8) scLaw.nd rfl (by first | exact .inl rfl | exact .inr rfl) (pe_call G_shares hr8 (by rfl) g_shares F_shares.kp b_shares .nil pass0 (pa_cons (pv 6) (pa_cons (pv 7) pa_nil))))
        (pss_cons (ps_if (PW.pt (pw_or (pt_cmpR (op_ne_dictA hu0) (pv 7) (pv 5) (nomark _)) (pw_or1 (pt_not (pt_val (pe_call G_hold hr3 (by rfl) g_hold F_hold.kp b_hold .nil pass0 (pa_cons (pv 8) (pa_cons (pv 3) (pa_cons (pv 4) (pa_cons (pv 5) pa_nil)))))))))) (pss_one (ps_ret pe_bl)) pss_nil)
        (pss_cons (ps_set (i := 9) scLaw.nd rfl (by first | exact .inl rfl | exact .inr rfl) (pe_callTy call_dictD (by rfl) x_dict (by decide +kernel) (pa_cons (pv 8) pa_nil)))
        (pss_cons (ps_expr (pe_bm0 PySem.F.plainAttrs_dict PySem.F.slot_dict_clear PySem.F.type_dict_clear mtd_clear (pv 7)))
        (pss_cons (ps_expr (pe_bm0 PySem.F.plainAttrs_dict PySem.F.slot_dict_clear PySem.F.type_dict_clear mtd_clear (pv 8)))
        (pss_cons (ps_if (PW.pt (pw_or (pt_cmpR (Rl.op_neDD hu65) (Rl.pe_callNS0 (E := fun _ => E0) G_shares hr8 (by rfl) g_shares F_shares.kp kb_shares (fun _ _ _ _ _ _ _ h => h.elim) (pk_cons (pv 6) (pk_cons (pv 5) pk_nil))) (pv 9) (nomark _)) (pw_or1 (PW.pt (pw_and (pt_cmpR (Rl.op_eqE hu0) (pv 5) pe_dnewK (nomark _)) (pw_and1 (pt_cmpR (Rl.op_neDD hu65) (pe_call G_shares hr8 (by rfl) g_shares F_shares.kp b_shares .nil pass0 (pa_cons (pv 6) (pa_cons pe_non pa_nil))) (pv 9) (nomark _)))))))) (pss_one (ps_ret pe_bl)) pss_nil)
        (pss_cons (ps_asg (pe_call G_bad hr2 (by rfl) g_bad F_bad.kp b_bad .nil pass0 (pa_cons (pv 2) (pa_cons (pv 3) (pa_cons (pv 5) pa_nil)))) (pg_tup rfl (pgs_cons (pg_name (i := 10) scLaw.nd rfl (by first | exact .inl rfl | exact .inr rfl)) (pgs_cons (pg_name (i := 11) scLaw.nd rfl (by first | exact .inl rfl | exact .inr rfl)) pgs_nil))))
        (pss_cons (ps_set (i := 12) scLaw.nd rfl (by first | exact .inl rfl | exact .inr rfl) (pe_ix ix_list (pe_lst (pa_cons (pe_lst pa_nil) (pa_cons (pe_tup pa_nil) (pa_cons pe_str (pa_cons pe_int (pa_cons pe_bl (pa_cons (pe_lst (pa_cons pe_int pa_nil)) (pa_cons pe_bl (pa_cons (pe_lst (pa_cons (pe_tup (pa_cons pe_str (pa_cons pe_int pa_nil))) pa_nil)) pa_nil))))))))) (pe_call G_draw hr1 (by rfl) g_draw F_draw.kp b_draw .nil pass0 (pa_cons (pv 2) (pa_cons pe_int pa_nil))) (fun _ _ => rfl)))
        (pss_one (ps_if (PW.pt (pw_or (pt_cmpR op_ne (pe_callB (r := Rl.rRepr2) (Rl.call_repr2 k_sys hg hr.units) (by rfl) x_repr (by decide +kernel) (pa_cons (pe_call G_refused hr (by rfl) g_refused F_refused.kp b_refused .nil pass0 (pa_cons (pv 6) (pa_cons (pv 10) pa_nil))) pa_nil)) (pe_callB (r := Rl.rRepr2) (Rl.call_repr2 k_sys hg hr.units) (by rfl) x_repr (by decide +kernel) (pa_cons (pe_lst (pa_cons pe_str (pa_cons (pv 11) pa_nil))) pa_nil)) (nomark _)) (pw_or1 (pt_cmpR (op_neD hr.units) (pe_call G_refused hr (by rfl) g_refused F_refused.kp b_refused .nil pass0 (pa_cons (pv 6) (pa_cons (pv 12) pa_nil))) (pe_lst (pa_cons pe_str (pa_cons pe_non pa_nil))) (nomark _))))) (pss_one (ps_ret pe_bl)) pss_nil)))))))))))))))
      (pss_one (ps_ret pe_bl))), ?_⟩
    refine ⟨.ref a0, rfl, a0, _, rfl, .inl hS, 6, _, rfl, 2, _, rfl, _, rfl, ?_, ?_, ?_⟩
    · split <;> split <;> omega
    · split <;> split <;> omega
    refine for_it walk_range (fun i σ H2 => ∃ (y1 y2 y3 y4 y5 y6 y7 y8 y9 y10 y11 y12 : Option V), σ = [some (.ref a0), y1, y2, y3, y4, y5, y6, y7, y8, y9, y10, y11, y12] ∧ Same H H2)
      ⟨none, none, none, none, none, none, none, none, none, none, none, none, rfl, Same.refl _⟩ (fun _ _ _ _ _ => trivial) ?_ ?_
    · rintro i x σ H2 H2' hi ⟨y1, y2, y3, y4, y5, y6, y7, y8, y9, y10, y11, y12, rfl, sm⟩ ⟨rfl, rfl⟩
      have hi8 : i < 63 := by
        split at hi <;> split at hi <;> omega
      refine ⟨.ref a0, rfl, .int (0 + (i : Int)), rfl, a0, ns, _, rfl, sm.seq hS, by omega, by omega, fun H3 p s3 np hP3 => ?_⟩
      clear hi
      have npH : H p = none := sm.free np
      have sm3 := sm.trans s3
      -- the net
      refine ⟨.ref p, rfl, p, 12, 60, rfl, hP3, by decide, by decide, by decide, by decide, fun t a b B Pp H4 k4 hP4 nt na nb ht ha hb good l12 h60 => ?_⟩
      refine ⟨t, [.ref a, .ref b], rfl, SqT.of ht, rfl, .ref a, [.ref b], rfl, .ref b, [], rfl, rfl, ?_⟩
      have wf := good.wf
      have lB := wf.lb
      have sm4 := Same.kp34 sm3 npH k4
      have okB : ∀ r ∈ B, 1 ≤ r.2 ∧ r.2 ≤ 60 := fun r hr' => (wf.rb r hr').2
      have nmB : ∀ z ∈ nms B, Nm z := fun z hz => by
        obtain ⟨u, hu', e⟩ := List.mem_map.mp hz
        rw [← (show u.1 = z from e)]; exact (wf.rb u hu').1
      -- poured
      refine ⟨.ref p, rfl, .ref a, rfl, p, a, B, rfl, hP4, ha, lB, wf.nb, okB, fun c Qp H5 k5 hP5 nc hc ndp okp => ?_⟩
      have n5 := NL.of_kp hP4 k5
      have sm5 := Same.kp34 sm4 npH k5
      have ha5 := n5.dk ha
      have hb5 := n5.dt hb
      have lQ : Qp.length ≤ 12 := by
        have := len_le_of_sub ndp (m := nms B) fun y hy => by
          obtain ⟨u, hu', e⟩ := List.mem_map.mp hy
          rw [← (show u.1 = y from e)]; exact (okp u hu').1
        rw [nms_len, nms_len] at this
        omega
      -- Net
      refine ⟨.ref a, rfl, .ref b, rfl, fun x dx nx ndx nex => ?_⟩
      have s5' : Same H5 (upd (upd H5 dx (.own x)) x (.ins C dx [])) := fun y o e => by
        rw [upd_ne (ne_of_none e nx), upd_ne (ne_of_none e ndx)]; exact e
      refine ⟨x, dx, a, b, B, Pp, rfl, upd_same, s5' a _ ha5, s5' b _ hb5, good, fun H6 B' P' N pB pP so _ W6 kp6 => ⟨rfl, ?_⟩⟩
      have s56 : Same H5 H6 := fun y o e => kp6 y o (s5' y o e) (ne_of_none e nx)
      have g' : Good B' P' := good.perm pB.symm pP.symm
      have pmN : (nms B').Perm (nms B) := pB.map Prod.fst
      have nb' : (nms B').Nodup := g'.wf.nb
      -- a copy
      refine ⟨.ref c, rfl, c, _, rfl, .inl (s56 c _ hc), fun e ne => ?_⟩
      refine ⟨_, _, rfl, ?_⟩
      obtain ⟨H7, eH7, s67, he7⟩ : ∃ X, X = upd H6 e (.dK (bk Qp)) ∧ Same H6 X ∧ X e = some (.dK (bk Qp)) := ⟨_, rfl, same_new ne, upd_same⟩
      rw [← eH7]; clear eH7
      have s57 := s56.trans s67
      have neH : H e = none := (sm5.trans s56).free ne
      have sm7 := sm5.trans s57
      have N7 := N.same s67
      have hP7 := hP5.same s57
      have ha7 := s57 a _ ha5
      have hb7 := s57 b _ hb5
      have hc7 := s57 c _ hc
      have nce : c ≠ e := ne_of_none (s56 c _ hc) ne
      have s56c := s56 c _ hc
      have s56a := s56 a _ ha5
      have hP6 := hP5.same s56
      clear sm3 sm4 hP3 hP4 hP5 k4 k5 n5 s5' W6 kp6 ha hb ha5 hb5 hc ht
      have tabC : ∀ {G : Hp} {y : Addr}, G y = some (.dK (bk Qp)) → Tab G (.ref y) B' Qp := fun {G y} h => ⟨.inr ⟨y, rfl, h⟩, ndp, by omega, fun u hu' => ⟨pmN.mem_iff.mpr (okp u hu').1, (okp u hu').2.1⟩⟩
      have bq : ∀ u ∈ Qp, u.2 ≤ 2 ^ 2000 := fun u hu' => Int.le_trans (okp u hu').2.2 (by decide +kernel)
      -- shares
      refine ⟨.ref x, rfl, .ref e, rfl, x, .ref e, B', P', Qp, rfl, N7, g', tabC he7, bq, fun H8 D tops d s8 nD F tp => ?_⟩
      have tpB := tops_perm nb' pB pP tp
      have ha8 := s8 a _ ha7
      have hb8 := s8 b _ hb7
      have hc8 := s8 c _ hc7
      have he8 := s8 e _ he7
      have nDa : D ≠ a := Ne.symm (ne_of_none ha7 nD)
      have nDc : D ≠ c := Ne.symm (ne_of_none hc7 nD)
      have nDe : D ≠ e := Ne.symm (ne_of_none he7 nD)
      have nDH : H D = none := sm7.free nD
      have vQ : ∀ z ∈ nms B, 0 ≤ val0 Qp z ∧ val0 Qp z ≤ 10 ^ 40 := fun z _ => by
        unfold val0
        cases g : getB Qp z with
        | none => exact ⟨by decide, by decide⟩
        | some v => exact (okp _ (getB_mem g)).2
      refine ⟨.ref e, rfl, .ref c, rfl, e, c, bk Qp, bk Qp, rfl, rfl, he8, hc8, rfl, fun y hy => ?_, false, rfl, iteF ?_⟩
      · obtain ⟨u, hu', rfl⟩ := List.mem_map.mp hy
        exact ⟨by rw [valV_bk, getB_of_mem ndp (show (u.1, u.2) ∈ Qp from hu')]; rfl, rfl⟩
      refine ⟨.ref D, rfl, .ref a, rfl, .ref b, rfl, .ref c, rfl, D, a, b, c, B, Pp, Qp, nms B', tops, d, rfl, F, pmN, ha8, hb8, hc8, nDa, good, tpB, vQ, fun H9 s9 => ⟨true, rfl, iteF ?_⟩⟩
      have F9 := F.same s9
      obtain ⟨ls, hls, els, tls⟩ := id F9
      -- kept
      refine ⟨.ref D, rfl, D, _, rfl, .inl hls, fun kq nkq => ?_⟩
      obtain ⟨H10, eH10, s910, hk10⟩ : ∃ X, X = upd H9 kq (.dK (ls.map fun p => ((Sum.inr p.1 : Key), V.ref p.2))) ∧ Same H9 X ∧ X kq = some (.dK (ls.map fun p => ((Sum.inr p.1 : Key), V.ref p.2))) := ⟨_, rfl, same_new nkq, upd_same⟩
      rw [← eH10]; clear eH10
      have s810 := s9.trans s910
      have nkD : kq ≠ D := Ne.symm (ne_of_none hls nkq)
      have nke : kq ≠ e := Ne.symm (ne_of_none (s9 e _ he8) nkq)
      have he10 := s810 e _ he8
      have hD10 := s910 D _ hls
      refine ⟨.ref e, rfl, .inr (.inr (.inl ⟨rfl, .inl ⟨_, he10⟩⟩)), e, bk Qp, rfl, rfl, he10, ?_⟩
      have hD11 : (upd H10 e (.dK [])) D = some (.dK (ls.map fun p => ((Sum.inr p.1 : Key), V.ref p.2))) := by rw [upd_ne nDe]; exact hD10
      refine ⟨.ref D, rfl, .inr (.inr (.inl ⟨rfl, .inl ⟨_, hD11⟩⟩)), D, _, rfl, rfl, hD11, ?_⟩
      obtain ⟨H12, eH12, k12⟩ : ∃ X, X = upd (upd H10 e (.dK [])) D (.dK []) ∧ ∀ y o, y ≠ e → y ≠ D → H10 y = some o → X y = some o := ⟨_, rfl, fun y o n1 n2 h => by rw [upd_ne n2, upd_ne n1]; exact h⟩
      have sm12 : Same H H12 := by
        rw [eH12]
        exact Same.put34 (Same.put34 ((sm7.trans s8).trans s810) neH) nDH
      rw [← eH12]; clear eH12
      have s710 := s8.trans s810
      have s612 : Same H6 H12 := fun y o h6 => by
        have h7 := s67 y o h6
        exact k12 y o (ne_of_none h6 ne) (ne_of_none h7 nD) (s710 y o h7)
      have N12 := N.same s612
      have hP12 := hP6.same s612
      have ha12 := s612 a _ s56a
      have hc12 := s612 c _ s56c
      have hk12 := k12 kq _ nke nkD hk10
      have Fk : FracAt H12 kq (fun z => frac (tops z) d) (nms B') := by
        refine ⟨ls, hk12, els, fun p hp => ?_⟩
        have tq := s910 _ _ (tls p hp)
        exact k12 _ _ (fun z => by rw [z, he10] at tq; cases tq) (fun z => by rw [z, hD10] at tq; cases tq) tq
      -- told again, by names
      refine ⟨.ref x, rfl, .ref c, rfl, rfl, rfl, x, .ref c, B', P', Qp, rfl, N12, g', tabC hc12, bq, fun H13 D2 tops2 d2 s13 nD2 F2 tp2 => ?_⟩
      obtain ⟨k1, k2, hk1, hk2, sdd⟩ := frac_same (K := K) nb' F2 (Fk.same s13) fun z hz => (frac_uniq tp tp2 hz).symm
      refine ⟨.ref kq, rfl, D2, kq, k1, k2, rfl, rfl, hk1, hk2, sdd, false, rfl, iteF ?_⟩
      refine and_empty rfl (s13 c _ hc12) (fun H14 s14 => iteF ?_) (fun R r H14 s14 eQ => ?_)
      rotate_left
      · refine ⟨.ref x, rfl, x, .non, B', P', Qp, rfl, (N12.same s13).same s14, g', ⟨.inl ⟨rfl, eQ⟩, ndp, by omega, fun u hu' => ⟨pmN.mem_iff.mpr (okp u hu').1, (okp u hu').2.1⟩⟩, bq, fun H15 D3 tops3 d3 s15 nD3 F3 tp3 => ?_⟩
        obtain ⟨k3, k4, hk3, hk4, sd2⟩ := frac_same (K := K) nb' F3 (Fk.same ((s13.trans s14).trans s15)) fun z hz => (frac_uniq tp tp3 hz).symm
        exact ⟨.ref kq, rfl, D3, kq, k3, k4, rfl, rfl, hk3, hk4, sd2, false, rfl, r H15 (s14.trans s15)⟩
      have s1214 := s13.trans s14
      have N14 := N12.same s1214
      have hP14 := hP12.same s1214
      have ha14 := s1214 a _ ha12
      have hc14 := s1214 c _ hc12
      have sm14 := sm12.trans s1214
      -- a bad one
      refine ⟨.ref p, rfl, .ref a, rfl, .ref c, rfl, p, a, c, B, Qp, rfl, hP14, ha14, hc14, lB, lQ, ndp, nmB, fun u hu' => ⟨(okp u hu').1, (okp u hu').2.1⟩, fun H15 t2 bd u dd k15 hP15 ht2 bad smx => ?_⟩
      refine ⟨t2, [bd, u], rfl, SqT.of ht2, rfl, bd, [u], rfl, u, [], rfl, rfl, ?_⟩
      have N15 := N14.nl (NL.of_kp hP14 k15)
      have sm15 := Same.kp34 sm14 npH k15
      -- no dict
      refine ⟨Nat.zero_le _, fun o1 m1 => ?_⟩
      obtain ⟨G1, eG1, g1, ho1⟩ : ∃ X, X = upd H15 o1 (.lst []) ∧ Same H15 X ∧ X o1 = some (.lst []) := ⟨_, rfl, same_new m1, upd_same⟩
      rw [← eG1]; clear eG1
      refine ⟨Nat.zero_le _, fun o2 m2 => ?_⟩
      obtain ⟨G2, eG2, g2, ho2⟩ : ∃ X, X = upd G1 o2 (.tup []) ∧ Same G1 X ∧ X o2 = some (.tup []) := ⟨_, rfl, same_new m2, upd_same⟩
      rw [← eG2]; clear eG2
      refine ⟨line1000 (by show 1 ≤ 1000; decide), fun o3 m3 => ?_⟩
      obtain ⟨G3, eG3, g3, ho3⟩ : ∃ X, X = upd G2 o3 (.lst [.int 0]) ∧ Same G2 X ∧ X o3 = some (.lst [.int 0]) := ⟨_, rfl, same_new m3, upd_same⟩
      rw [← eG3]; clear eG3
      refine ⟨line1000 (by show 2 ≤ 1000; decide), fun o4 m4 => ?_⟩
      obtain ⟨G4, eG4, g4, ho4⟩ : ∃ X, X = upd G3 o4 (.tup [.str "a", .int 1]) ∧ Same G3 X ∧ X o4 = some (.tup [.str "a", .int 1]) := ⟨_, rfl, same_new m4, upd_same⟩
      rw [← eG4]; clear eG4
      refine ⟨line1000 (by show 1 ≤ 1000; decide), fun o5 m5 => ?_⟩
      obtain ⟨G5, eG5, g5, ho5⟩ : ∃ X, X = upd G4 o5 (.lst [.ref o4]) ∧ Same G4 X ∧ X o5 = some (.lst [.ref o4]) := ⟨_, rfl, same_new m5, upd_same⟩
      rw [← eG5]; clear eG5
      refine ⟨line1000 (by show 8 ≤ 1000; decide), fun o6 m6 => ?_⟩
      obtain ⟨G6, eG6, g6, ho6⟩ : ∃ X, X = upd G5 o6 (.lst [.ref o1, .ref o2, .str "", .int 0, .bl false, .ref o3, .bl true, .ref o5]) ∧ Same G5 X ∧ X o6 = some (.lst [.ref o1, .ref o2, .str "", .int 0, .bl false, .ref o3, .bl true, .ref o5]) := ⟨_, rfl, same_new m6, upd_same⟩
      show tCall spDraw _ _ _ _ (upd G5 o6 (.lst [.ref o1, .ref o2, .str "", .int 0, .bl false, .ref o3, .bl true, .ref o5])) _
      rw [← eG6]; clear eG6
      have g46 := (g5.trans g6)
      have g36 := g4.trans g46
      have g26 := g3.trans g36
      have g16 := g2.trans g26
      have g06 := g1.trans g16
      have hPG := hP15.same g06
      refine ⟨.ref p, rfl, p, 8, rfl, hPG, by decide, by decide, fun d3 H16 k16 hP16 d30 d31 => ?_⟩
      have d32 : d3 < 8 := d31
      have o1p : o1 ≠ p := hP15.ne m1
      have o2p : o2 ≠ p := (hP15.same g1).ne m2
      have o3p : o3 ≠ p := (hP15.same (g1.trans g2)).ne m3
      have o5p : o5 ≠ p := (hP15.same (g1.trans (g2.trans (g3.trans g4)))).ne m5
      have o6p : o6 ≠ p := (hP15.same (g1.trans (g2.trans (g3.trans (g4.trans g5))))).ne m6
      obtain ⟨v, hv⟩ : ∃ v, [V.ref o1, .ref o2, .str "", .int 0, .bl false, .ref o3, .bl true, .ref o5][d3.toNat]? = some v := ⟨_, List.getElem?_eq_getElem (by show d3.toNat < 8; omega)⟩
      have nonD : NonD H16 v := by
        have m := List.mem_of_getElem? hv
        simp only [List.mem_cons, List.not_mem_nil, or_false] at m
        rcases m with rfl | rfl | rfl | rfl | rfl | rfl | rfl | rfl
        · exact .inr (.inr (.inr (.inl ⟨o1, _, rfl, k16 _ _ o1p (g16 _ _ ho1)⟩)))
        · exact .inr (.inr (.inr (.inr ⟨o2, _, rfl, k16 _ _ o2p (g26 _ _ ho2)⟩)))
        · exact .inr (.inr (.inl ⟨_, rfl⟩))
        · exact .inl ⟨_, rfl⟩
        · exact .inr (.inl ⟨_, rfl⟩)
        · exact .inr (.inr (.inr (.inl ⟨o3, _, rfl, k16 _ _ o3p (g36 _ _ ho3)⟩)))
        · exact .inr (.inl ⟨_, rfl⟩)
        · exact .inr (.inr (.inr (.inl ⟨o5, _, rfl, k16 _ _ o5p (g6 _ _ ho5)⟩)))
      refine ⟨o6, _, d3, v, rfl, rfl, SqL.of (k16 _ _ o6p ho6), ?_, ?_⟩
      · rw [show d3 = ((d3.toNat : Nat) : Int) by omega]
        exact atI_nat hv
      have N16 := (N15.same g06).nl (NL.of_kp hPG k16)
      have sm16 := Same.kp34 (sm15.trans g06) npH k16
      obtain ⟨badB, dx⟩ := bad H16 ((Kp.of_same g06).trans k16)
      have bad' := badB B' pmN
      have shw : Rl.Shw (.list [.str "inflow", dd]) := (Rl.Smx.lst (Rl.SmxA.of (k := 1) (m := 200) fun y hy => by
        rcases List.mem_cons.mp hy with rfl | hy
        · exact (Rl.Smx.txt (n := 6) ⟨by decide +kernel, by decide +kernel⟩).mono (by decide) (by decide)
        · rw [List.mem_singleton.mp hy]; exact smx)).shw (by decide) (by show (200 + 1) * 2 ≤ 8000; decide)
      refine ⟨.ref x, rfl, bd, rfl, x, bd, u, B', P', rfl, N16, g', bad', fun H17 r1 s17 nr1 hr1 => ?_⟩
      refine ⟨r1, .str "inflow", u, .str "inflow", dd, rfl, hr1, .inl (.str _), .inl (Rl.Dx.same s17 _ _ dx), shw, ?_⟩
      refine ⟨u, rfl, line1000 (by show 2 ≤ 1000; decide), fun l2 nl2 => ?_⟩
      have s18 := same_new (o := .lst [.str "inflow", u]) nl2
      refine ⟨l2, .str "inflow", u, .str "inflow", dd, rfl, upd_same, .inl (.str _), .inl (Rl.Dx.same (s17.trans s18) _ _ dx), shw, ?_⟩
      refine ⟨rfl, false, congrArg V.bl (by simp), iteF ?_⟩
      refine ⟨.ref x, rfl, v, rfl, x, v, .non, B', P', rfl, (N16.same s17).same s18, g', .non ((nonD.same s17).same s18), fun H19 r2 s19 nr2 hr2 => ?_⟩
      refine ⟨line1000 (by show 2 ≤ 1000; decide), fun l3 nl3 => ?_⟩
      have s20 := same_new (o := .lst [.str "inflow", .non]) nl3
      refine ⟨.list [.str "inflow", .none], .list [.str "inflow", .none], .lst (SqL.of (s20 _ _ hr2)) (.cons (.str _) (.cons .non .nil)), .lst (SqL.of upd_same) (.cons (.str _) (.cons .non .nil)), by decide +kernel, by decide +kernel, false, congrArg V.bl (by simp [PyData.eqv, PyData.eqvAll]), iteF ?_⟩
      exact ⟨_, _, _, _, _, _, _, _, _, _, _, _, rfl, (sm16.trans s17).trans (s18.trans (s19.trans s20))⟩
    · rintro σ H2 ⟨y1, y2, y3, y4, y5, y6, y7, y8, y9, y10, y11, y12, rfl, sm⟩
      exact q H2
end
end Nl
end
section
set_option maxHeartbeats 1000000
namespace Nl
open PySem PySem.Spec PyProof.Rows L2 Nt
theorem fun_ofD {K : PySem.W.Frag} {x qual : Str} {st : Stmt} {f : Addr} {fd : FuncData} (F : FunD K x qual (defArgs st) (defBody st) (defScope st) [] [] f fd) : Fun K x qual st f fd := by
  obtain ⟨oc, od, dV, kV, doc, pm, an, cdv, ct, osl, rfl, lk, hcd, hD, hK⟩ := F.ex
  rcases hD with ⟨_, rfl⟩ | ⟨e, _⟩
  · exact ⟨⟨oc, od, kV, doc, pm, an, cdv, ct, osl, rfl, lk, hcd⟩, F.kp⟩
  · exact absurd rfl e
theorem all_test {l : PySem.W.OpenLaw} {w : World} {K : PySem.W.Frag} {h : Heap} {mg : Str → Option Value} {C CS : Addr}
    {f_whole : Addr} {fd_whole : FuncData}
    {f_name : Addr} {fd_name : FuncData}
    {f_meas : Addr} {fd_meas : FuncData}
    {f_pondOf : Addr} {fd_pondOf : FuncData}
    {f_pairOf : Addr} {fd_pairOf : FuncData}
    {f_goes : Addr} {fd_goes : FuncData}
    {f_comes : Addr} {fd_comes : FuncData}
    {f_steps : Addr} {fd_steps : FuncData}
    {f_pOut : Addr} {fd_pOut : FuncData}
    {f_pIn : Addr} {fd_pIn : FuncData}
    {f_ckPonds : Addr} {fd_ckPonds : FuncData}
    {f_ckPipes : Addr} {fd_ckPipes : FuncData}
    {f_ckSides : Addr} {fd_ckSides : FuncData}
    {f_ckWays : Addr} {fd_ckWays : FuncData}
    {f_wrong : Addr} {fd_wrong : FuncData}
    {f_forAll : Addr} {fd_forAll : FuncData}
    {f_pot : Addr} {fd_pot : FuncData}
    {f_draw : Addr} {fd_draw : FuncData}
    {f_lname : Addr} {fd_lname : FuncData}
    {f_balRow : Addr} {fd_balRow : FuncData}
    {f_solved : Addr} {fd_solved : FuncData}
    {f_still : Addr} {fd_still : FuncData}
    {f_least : Addr} {fd_least : FuncData}
    {f_lout : Addr} {fd_lout : FuncData}
    {f_lin : Addr} {fd_lin : FuncData}
    {f_closed : Addr} {fd_closed : FuncData}
    {f_lnet : Addr} {fd_lnet : FuncData}
    {f_lpoured : Addr} {fd_lpoured : FuncData}
    {f_gcd : Addr} {fd_gcd : FuncData}
    {f_frac : Addr} {fd_frac : FuncData}
    {f_shares : Addr} {fd_shares : FuncData}
    {f_ldiv : Addr} {fd_ldiv : FuncData}
    {f_isShare : Addr} {fd_isShare : FuncData}
    {f_hold : Addr} {fd_hold : FuncData}
    {f_refused : Addr} {fd_refused : FuncData}
    {f_bad : Addr} {fd_bad : FuncData}
    {f_law : Addr} {fd_law : FuncData}
    {f_has : Addr} {fd_has : FuncData}
    {f_chk : Addr} {fd_chk : FuncData}
    {f_ponds : Addr} {fd_ponds : FuncData}
    {f_brim : Addr} {fd_brim : FuncData}
    {f_ins : Addr} {fd_ins : FuncData}
    {f_brims : Addr} {fd_brims : FuncData}
    {f_pipes : Addr} {fd_pipes : FuncData}
    {f_snet : Addr} {fd_snet : FuncData}
    {f_water : Addr} {fd_water : FuncData}
    {f_pours : Addr} {fd_pours : FuncData}
    {f_counts : Addr} {fd_counts : FuncData}
    {f_width : Addr} {fd_width : FuncData}
    {f_nI : Addr} {fd_nI : FuncData}
    {f_sI : Addr} {fd_sI : FuncData}
    {CP f_CP cda_CP cc_CP : Addr} {fd_CP : FuncData}
    {CU f_CU cda_CU cc_CU : Addr} {fd_CU : FuncData}
    {CW : Addr}
    {CE : Addr}
    {CN : Addr}
    {tk_0 : Tok}
    {tk_1 : Tok}
    {tk_2 : Tok}
    {tk_3 : Tok}
    (F_whole : Fun K "is_whole" "is_whole" sWhole f_whole fd_whole) (g_whole : mg "is_whole" = some (.ref f_whole))
    (F_name : Fun K "is_name" "is_name" sName f_name fd_name) (g_name : mg "is_name" = some (.ref f_name))
    (F_meas : Fun K "is_measure" "is_measure" sMeas f_meas fd_meas) (g_meas : mg "is_measure" = some (.ref f_meas))
    (F_pondOf : Fun K "is_pond_of" "is_pond_of" sPondOf f_pondOf fd_pondOf) (g_pondOf : mg "is_pond_of" = some (.ref f_pondOf))
    (F_pairOf : Fun K "is_pair_of" "is_pair_of" sPairOf f_pairOf fd_pairOf) (g_pairOf : mg "is_pair_of" = some (.ref f_pairOf))
    (F_goes : Fun K "goes_out" "goes_out" sGoes f_goes fd_goes) (g_goes : mg "goes_out" = some (.ref f_goes))
    (F_comes : Fun K "comes_in" "comes_in" sComes f_comes fd_comes) (g_comes : mg "comes_in" = some (.ref f_comes))
    (F_steps : Fun K "steps_out" "steps_out" sSteps f_steps fd_steps) (g_steps : mg "steps_out" = some (.ref f_steps))
    (F_pOut : Fun K "pipes_out" "pipes_out" sPipesOut f_pOut fd_pOut) (g_pOut : mg "pipes_out" = some (.ref f_pOut))
    (F_pIn : Fun K "pipes_in" "pipes_in" sPipesIn f_pIn fd_pIn) (g_pIn : mg "pipes_in" = some (.ref f_pIn))
    (F_ckPonds : Fun K "check_ponds" "check_ponds" sCkPonds f_ckPonds fd_ckPonds) (g_ckPonds : mg "check_ponds" = some (.ref f_ckPonds))
    (F_ckPipes : Fun K "check_pipes" "check_pipes" sCkPipes f_ckPipes fd_ckPipes) (g_ckPipes : mg "check_pipes" = some (.ref f_ckPipes))
    (F_ckSides : Fun K "check_sides" "check_sides" sCkSides f_ckSides fd_ckSides) (g_ckSides : mg "check_sides" = some (.ref f_ckSides))
    (F_ckWays : Fun K "check_ways" "check_ways" sCkWays f_ckWays fd_ckWays) (g_ckWays : mg "check_ways" = some (.ref f_ckWays))
    (F_wrong : Fun K "wrong_keys" "wrong_keys" sWrong f_wrong fd_wrong) (g_wrong : mg "wrong_keys" = some (.ref f_wrong))
    (F_forAll : Fun K "for_all_ponds" "for_all_ponds" sForAll f_forAll fd_forAll) (g_forAll : mg "for_all_ponds" = some (.ref f_forAll))
    (F_pot : Fun K "_law_pot" "_law_pot" sPot f_pot fd_pot) (g_pot : mg "_law_pot" = some (.ref f_pot))
    (F_draw : Fun K "_law_draw" "_law_draw" sDraw f_draw fd_draw) (g_draw : mg "_law_draw" = some (.ref f_draw))
    (F_lname : Fun K "_law_name" "_law_name" sLName f_lname fd_lname) (g_lname : mg "_law_name" = some (.ref f_lname))
    (F_balRow : Fun K "balance_row" "balance_row" sBalRow f_balRow fd_balRow) (g_balRow : mg "balance_row" = some (.ref f_balRow))
    (F_solved : Fun K "solved_for" "solved_for" sSolved f_solved fd_solved) (g_solved : mg "solved_for" = some (.ref f_solved))
    (F_still : Fun K "still_over" "still_over" sStill f_still fd_still) (g_still : mg "still_over" = some (.ref f_still))
    (F_least : Fun K "least_tops" "least_tops" sLeast f_least fd_least) (g_least : mg "least_tops" = some (.ref f_least))
    (F_lout : Fun K "_law_out" "_law_out" sLOut f_lout fd_lout) (g_lout : mg "_law_out" = some (.ref f_lout))
    (F_lin : Fun K "_law_in" "_law_in" sLIn f_lin fd_lin) (g_lin : mg "_law_in" = some (.ref f_lin))
    (F_closed : Fun K "_law_closed" "_law_closed" sClosed f_closed fd_closed) (g_closed : mg "_law_closed" = some (.ref f_closed))
    (F_lnet : Fun K "_law_net" "_law_net" sNet f_lnet fd_lnet) (g_lnet : mg "_law_net" = some (.ref f_lnet))
    (F_lpoured : Fun K "_law_poured" "_law_poured" sLPoured f_lpoured fd_lpoured) (g_lpoured : mg "_law_poured" = some (.ref f_lpoured))
    (F_gcd : Fun K "common_divisor" "common_divisor" sGcd f_gcd fd_gcd) (g_gcd : mg "common_divisor" = some (.ref f_gcd))
    (F_frac : Fun K "fraction" "fraction" sFrac f_frac fd_frac) (g_frac : mg "fraction" = some (.ref f_frac))
    (F_shares : Fun K "shares" "shares" sShares f_shares fd_shares) (g_shares : mg "shares" = some (.ref f_shares))
    (F_ldiv : Fun K "_law_divisor" "_law_divisor" s_law_divisor f_ldiv fd_ldiv) (g_ldiv : mg "_law_divisor" = some (.ref f_ldiv))
    (F_isShare : Fun K "_law_is_share" "_law_is_share" s_law_is_share f_isShare fd_isShare) (g_isShare : mg "_law_is_share" = some (.ref f_isShare))
    (F_hold : Fun K "_law_hold" "_law_hold" s_law_hold f_hold fd_hold) (g_hold : mg "_law_hold" = some (.ref f_hold))
    (F_refused : Fun K "_law_refused" "_law_refused" sRefused f_refused fd_refused) (g_refused : mg "_law_refused" = some (.ref f_refused))
    (F_bad : Fun K "_law_bad" "_law_bad" s_law_bad f_bad fd_bad) (g_bad : mg "_law_bad" = some (.ref f_bad))
    (F_law : FunD K "law" "law" (defArgs sLaw) (defBody sLaw) (defScope sLaw) [] [] f_law fd_law) (g_law : mg "law" = some (.ref f_law))
    (F_has : Fun K "has_pond" "Net.has_pond" mNet_has_pond f_has fd_has) (m_has : Meth K C "has_pond" f_has)
    (F_chk : Fun K "check_pond" "Net.check_pond" mNet_check_pond f_chk fd_chk) (m_chk : Meth K C "check_pond" f_chk)
    (F_ponds : Fun K "ponds" "Net.ponds" mNet_ponds f_ponds fd_ponds) (m_ponds : Meth K C "ponds" f_ponds)
    (F_brim : Fun K "brim" "Net.brim" mNet_brim f_brim fd_brim) (m_brim : Meth K C "brim" f_brim)
    (F_ins : Fun K "ins" "Net.ins" mNet_ins f_ins fd_ins) (m_ins : Meth K C "ins" f_ins)
    (F_brims : Fun K "brims" "Net.brims" mNet_brims f_brims fd_brims) (m_brims : Meth K C "brims" f_brims)
    (F_pipes : Fun K "pipes" "Net.pipes" mNet_pipes f_pipes fd_pipes) (m_pipes : Meth K C "pipes" f_pipes)
    (F_snet : Fun K "net" "Stand.net" mStand_net f_snet fd_snet) (m_snet : Meth K CS "net" f_snet)
    (F_water : Fun K "water" "Stand.water" mStand_water f_water fd_water) (m_water : Meth K CS "water" f_water)
    (F_pours : Fun K "pours" "Stand.pours" mStand_pours f_pours fd_pours) (m_pours : Meth K CS "pours" f_pours)
    (F_counts : Fun K "counts" "Stand.counts" mStand_counts f_counts fd_counts) (m_counts : Meth K CS "counts" f_counts)
    (F_width : Fun K "width" "Net.width" mNet_width f_width fd_width) (m_width : Meth K C "width" f_width)
    (F_nI : FunD K "__init__" "Net.__init__" (defArgs mNet_init) (defBody mNet_init) (defScope mNet_init) [.non] [] f_nI fd_nI) (MN : Mk K C f_nI)
    (F_sI : FunD K "__init__" "Stand.__init__" (defArgs mStand_init) (defBody mStand_init) (defScope mStand_init) [.non, .non] [] f_sI fd_sI) (MS : Mk K CS f_sI)
    (T : TxN K mg C) (TS : TxS K mg CS)
    (X_CP : Rl.SuX l.prog K mg CP f_CP xBadPoured "BadPoured.__init__" fd_CP cda_CP cc_CP) (g_CP : mg "BadPoured" = some (.ref CP))
    (X_CU : Rl.SuX l.prog K mg CU f_CU xBadCount "BadCount.__init__" fd_CU cda_CU cc_CU) (g_CU : mg "BadCount" = some (.ref CU))
    (g_CW : mg "WaterError" = some (.ref CW))
    (g_CE : mg "StandError" = some (.ref CE))
    (g_CN : mg "NetError" = some (.ref CN))
    (k_sys : (List.lookup sysModules K).isSome = true)
    (n_P : PySem.W.findIn K (.ref CP) "name" = some none)
    (n_U : PySem.W.findIn K (.ref CU) "name" = some none)
    (xc_CP : Rl.xcB K CP = true)
    (k_PP : PySem.W.kitOne K (.ref CP) (.ref CP) = some true)
    (k_PE : PySem.W.kitOne K (.ref CP) (.ref CE) = some true)
    (k_PV : PySem.W.kitOne K (.ref CP) (.type "ValueError") = some true)
    (k_PU : PySem.W.kitOne K (.ref CP) (.ref CU) = some false)
    (k_PN : PySem.W.kitOne K (.ref CP) (.ref CN) = some false)
    (m_PW : PySem.W.exmOne K (.ref CP) (.ref CW) = some true)
    (x_isinstance : mg "isinstance" = none)
    (x_int : mg "int" = none)
    (x_bool : mg "bool" = none)
    (x_str : mg "str" = none)
    (x_len : mg "len" = none)
    (x_all : mg "all" = none)
    (x_tuple : mg "tuple" = none)
    (x_sum : mg "sum" = none)
    (x_sorted : mg "sorted" = none)
    (x_dict : mg "dict" = none)
    (x_list : mg "list" = none)
    (x_divmod : mg "divmod" = none)
    (x_max : mg "max" = none)
    (x_abs : mg "abs" = none)
    (x_range : mg "range" = none)
    (x_min : mg "min" = none)
    (x_repr : mg "repr" = none)
    (x_ValueError : mg "ValueError" = none)
    (x_zip : mg "zip" = none)
    (x_enumerate : mg "enumerate" = none)
    (x_super : mg "super" = none)
    (w_0 : mg "MOST_LETTERS" = some (.int 8 tk_0))
    (w_1 : mg "LETTERS" = some (.str abc tk_1))
    (w_2 : mg "MOST_BRIM" = some (.int 60 tk_2))
    (w_3 : mg "MOST_PONDS" = some (.int 12 tk_3)) :
    ∃ fd : FuncData, (∀ (s : Shared) (v : Value), BindsTo s fd ⟨[v], []⟩ [("_law_script", v)]) ∧ ∀ base : Heap, K.In base → base.Ns mainGlobals mg → Rl.FnG l.prog w K mg base CX0 10 f_law fd ["_law_script"] (spLaw K) := by
  have FD_law := F_law
  have F_law := fun_ofD F_law
  have b_whole := F_whole.binds (ps := ["thing", "least"]) fun _ _ _ _ _ _ us hl => match us, hl with | [_, _], _ => rfl
  have b_name := F_name.binds (ps := ["thing"]) fun _ _ _ _ _ _ us hl => match us, hl with | [_], _ => rfl
  have b_meas := F_meas.binds (ps := ["thing"]) fun _ _ _ _ _ _ us hl => match us, hl with | [_], _ => rfl
  have b_pondOf := F_pondOf.binds (ps := ["brims", "thing"]) fun _ _ _ _ _ _ us hl => match us, hl with | [_, _], _ => rfl
  have b_pairOf := F_pairOf.binds (ps := ["brims", "thing"]) fun _ _ _ _ _ _ us hl => match us, hl with | [_, _], _ => rfl
  have b_goes := F_goes.binds (ps := ["pipes", "name"]) fun _ _ _ _ _ _ us hl => match us, hl with | [_, _], _ => rfl
  have b_comes := F_comes.binds (ps := ["pipes", "name"]) fun _ _ _ _ _ _ us hl => match us, hl with | [_, _], _ => rfl
  have b_steps := F_steps.binds (ps := ["brims", "pipes"]) fun _ _ _ _ _ _ us hl => match us, hl with | [_, _], _ => rfl
  have b_pOut := F_pOut.binds (ps := ["pipes", "name"]) fun _ _ _ _ _ _ us hl => match us, hl with | [_, _], _ => rfl
  have b_pIn := F_pIn.binds (ps := ["pipes", "name"]) fun _ _ _ _ _ _ us hl => match us, hl with | [_, _], _ => rfl
  have b_ckPonds := F_ckPonds.binds (ps := ["brims"]) fun _ _ _ _ _ _ us hl => match us, hl with | [_], _ => rfl
  have b_ckPipes := F_ckPipes.binds (ps := ["brims", "pipes"]) fun _ _ _ _ _ _ us hl => match us, hl with | [_, _], _ => rfl
  have b_ckSides := F_ckSides.binds (ps := ["brims", "pipes"]) fun _ _ _ _ _ _ us hl => match us, hl with | [_, _], _ => rfl
  have b_ckWays := F_ckWays.binds (ps := ["brims", "pipes"]) fun _ _ _ _ _ _ us hl => match us, hl with | [_, _], _ => rfl
  have b_wrong := F_wrong.binds (ps := ["net", "table"]) fun _ _ _ _ _ _ us hl => match us, hl with | [_, _], _ => rfl
  have b_forAll := F_forAll.binds (ps := ["net", "table"]) fun _ _ _ _ _ _ us hl => match us, hl with | [_, _], _ => rfl
  have b_pot := F_pot.binds (ps := ["_law_script", "_law_k"]) fun _ _ _ _ _ _ us hl => match us, hl with | [_, _], _ => rfl
  have b_draw := F_draw.binds (ps := ["_law_pot_here", "_law_many"]) fun _ _ _ _ _ _ us hl => match us, hl with | [_, _], _ => rfl
  have b_lname := F_lname.binds (ps := ["_law_pot_here", "_law_taken"]) fun _ _ _ _ _ _ us hl => match us, hl with | [_, _], _ => rfl
  have b_balRow := F_balRow.binds (ps := ["net", "waters", "name"]) fun _ _ _ _ _ _ us hl => match us, hl with | [_, _, _], _ => rfl
  have b_solved := F_solved.binds (ps := ["rows", "at", "bottom"]) fun _ _ _ _ _ _ us hl => match us, hl with | [_, _, _], _ => rfl
  have b_still := F_still.binds (ps := ["rows", "spilt"]) fun _ _ _ _ _ _ us hl => match us, hl with | [_, _], _ => rfl
  have b_least := F_least.binds (ps := ["net", "waters"]) fun _ _ _ _ _ _ us hl => match us, hl with | [_, _], _ => rfl
  have b_lout := F_lout.binds (ps := ["_law_pipes", "_law_name_here"]) fun _ _ _ _ _ _ us hl => match us, hl with | [_, _], _ => rfl
  have b_lin := F_lin.binds (ps := ["_law_pipes", "_law_name_here"]) fun _ _ _ _ _ _ us hl => match us, hl with | [_, _], _ => rfl
  have b_closed := F_closed.binds (ps := ["_law_brims", "_law_pipes"]) fun _ _ _ _ _ _ us hl => match us, hl with | [_, _], _ => rfl
  have b_lnet := F_lnet.binds (ps := ["_law_pot_here", "_law_most", "_law_high"]) fun _ _ _ _ _ _ us hl => match us, hl with | [_, _, _], _ => rfl
  have b_lpoured := F_lpoured.binds (ps := ["_law_pot_here", "_law_brims"]) fun _ _ _ _ _ _ us hl => match us, hl with | [_, _], _ => rfl
  have b_gcd := F_gcd.binds (ps := ["one", "other"]) fun _ _ _ _ _ _ us hl => match us, hl with | [_, _], _ => rfl
  have b_frac := F_frac.binds (ps := ["top", "bottom"]) fun _ _ _ _ _ _ us hl => match us, hl with | [_, _], _ => rfl
  have b_shares := F_shares.binds (ps := ["net", "poured"]) fun _ _ _ _ _ _ us hl => match us, hl with | [_, _], _ => rfl
  have b_ldiv := F_ldiv.binds (ps := ["_law_one", "_law_other"]) fun _ _ _ _ _ _ us hl => match us, hl with | [_, _], _ => rfl
  have b_isShare := F_isShare.binds (ps := ["_law_thing"]) fun _ _ _ _ _ _ us hl => match us, hl with | [_], _ => rfl
  have b_hold := F_hold.binds (ps := ["_law_told", "_law_brims", "_law_pipes", "_law_inflow"]) fun _ _ _ _ _ _ us hl => match us, hl with | [_, _, _, _], _ => rfl
  have b_refused := F_refused.binds (ps := ["_law_web", "_law_inflow"]) fun _ _ _ _ _ _ us hl => match us, hl with | [_, _], _ => rfl
  have b_bad := F_bad.binds (ps := ["_law_pot_here", "_law_brims", "_law_inflow"]) fun _ _ _ _ _ _ us hl => match us, hl with | [_, _, _], _ => rfl
  have b_law := F_law.binds (ps := ["_law_script"]) fun _ _ _ _ _ _ us hl => match us, hl with | [_], _ => rfl
  have b_has := F_has.binds (ps := ["self", "thing"]) fun _ _ _ _ _ _ us hl => match us, hl with | [_, _], _ => rfl
  have b_chk := F_chk.binds (ps := ["self", "thing"]) fun _ _ _ _ _ _ us hl => match us, hl with | [_, _], _ => rfl
  have b_ponds := F_ponds.binds (ps := ["self"]) fun _ _ _ _ _ _ us hl => match us, hl with | [_], _ => rfl
  have b_brim := F_brim.binds (ps := ["self", "name"]) fun _ _ _ _ _ _ us hl => match us, hl with | [_, _], _ => rfl
  have b_ins := F_ins.binds (ps := ["self", "name"]) fun _ _ _ _ _ _ us hl => match us, hl with | [_, _], _ => rfl
  have b_brims := F_brims.binds (ps := ["self"]) fun _ _ _ _ _ _ us hl => match us, hl with | [_], _ => rfl
  have b_pipes := F_pipes.binds (ps := ["self"]) fun _ _ _ _ _ _ us hl => match us, hl with | [_], _ => rfl
  have b_snet := F_snet.binds (ps := ["self"]) fun _ _ _ _ _ _ us hl => match us, hl with | [_], _ => rfl
  have b_water := F_water.binds (ps := ["self", "name"]) fun _ _ _ _ _ _ us hl => match us, hl with | [_, _], _ => rfl
  have b_pours := F_pours.binds (ps := ["self"]) fun _ _ _ _ _ _ us hl => match us, hl with | [_], _ => rfl
  have b_counts := F_counts.binds (ps := ["self"]) fun _ _ _ _ _ _ us hl => match us, hl with | [_], _ => rfl
  have b_width := F_width.binds (ps := ["self", "one", "other"]) fun _ _ _ _ _ _ us hl => match us, hl with | [_, _, _], _ => rfl
  have b_CP := X_CP.binds (ps := ["self", "name"]) fun _ _ _ _ _ us hl => match us, hl with | [_, _], _ => rfl
  have b_CU := X_CU.binds (ps := ["self", "name"]) fun _ _ _ _ _ us hl => match us, hl with | [_, _], _ => rfl
  obtain ⟨ds_n, v_n, b_n⟩ := F_nI.binds1 (ps := ["self", "brims", "pipes"]) 3 1 (by simp) rfl (fun T kV doc pm an cdv ct us its hu hi => match us, its, hu, hi with | [_, _, _], [_], _, _ => ⟨_, rfl, rfl⟩)
  obtain ⟨ds_n1, v_n1, b_n1⟩ := F_nI.binds1 (ps := ["self", "brims", "pipes"]) 2 0 (by simp) rfl (fun T kV doc pm an cdv ct us its hu hi => match us, its, hu, hi with | [_, _], [_], _, _ => ⟨_, rfl, rfl⟩)
  have v_n1 : Vals [.non] ds_n1 := v_n1
  obtain ⟨ds_s3, v_s3, b_s3⟩ := F_sI.binds1 (ps := ["self", "net", "poured", "counts"]) 4 2 (by simp) rfl (fun T kV doc pm an cdv ct us its hu hi => match us, its, hu, hi with | [_, _, _, _], [_, _], _, _ => ⟨_, rfl, rfl⟩)
  obtain ⟨ds_s2, v_s2, b_s2⟩ := F_sI.binds1 (ps := ["self", "net", "poured", "counts"]) 3 1 (by simp) rfl (fun T kV doc pm an cdv ct us its hu hi => match us, its, hu, hi with | [_, _, _], [_, _], _, _ => ⟨_, rfl, rfl⟩)
  obtain ⟨ds_s1, v_s1, b_s1⟩ := F_sI.binds1 (ps := ["self", "net", "poured", "counts"]) 2 0 (by simp) rfl (fun T kV doc pm an cdv ct us its hu hi => match us, its, hu, hi with | [_, _], [_, _], _, _ => ⟨_, rfl, rfl⟩)
  have xx_CP := Rl.xcB_ok xc_CP
  have XB_ : X34 K mg CP CU CW CE CN := ⟨g_CP, g_CU, g_CW, g_CE, g_CN, xx_CP.2, n_P, xx_CP.1, k_PP, k_PE, k_PV, k_PU, k_PN, m_PW⟩
  have kb_shares := Rl.kbF (ps := ["net", "poured"]) F_shares 0 ["net", "poured"] (fun kV doc pm an cdv ct us ws h1 h2 => match us, ws, h1, h2 with | [], [_, _], _, _ => rfl)
  have v_n : Vals [] ds_n := v_n
  have v_s3 : Vals [] ds_s3 := v_s3
  have bA := FD_law.bindsA (ps := ["_law_script"]) fun _ _ _ _ _ _ us hl => match us, hl with | [_], _ => rfl
  refine ⟨fd_law, fun s v => bA s [v] rfl, fun base _ _ => ?_⟩
  have G_whole : FnOk l.prog w K mg base CX0 1 f_whole _ ["thing", "least"] spWhole := ok_whole F_whole x_isinstance x_int x_bool
  have G_name : FnOk l.prog w K mg base CX0 1 f_name _ ["thing"] spName := ok_name F_name x_isinstance x_str x_len x_all w_0 w_1
  have G_meas : FnOk l.prog w K mg base CX0 2 f_meas _ ["thing"] spMeas := ok_meas F_meas F_whole G_whole b_whole g_whole w_2
  have G_pondOf : FnOk l.prog w K mg base CX0 2 f_pondOf _ ["brims", "thing"] spPondOf := ok_pondOf F_pondOf F_name G_name b_name g_name
  have G_pairOf : FnOk l.prog w K mg base CX0 3 f_pairOf _ ["brims", "thing"] spPairOf := ok_pairOf F_pairOf F_pondOf G_pondOf b_pondOf g_pondOf x_isinstance x_tuple x_len
  have G_goes : FnOk l.prog w K mg base CX0 1 f_goes _ ["pipes", "name"] spGoes := ok_goes F_goes x_sum
  have G_comes : FnOk l.prog w K mg base CX0 1 f_comes _ ["pipes", "name"] spComes := ok_comes F_comes x_sum
  have G_steps : FnOk l.prog w K mg base CX0 2 f_steps _ ["brims", "pipes"] spSteps := ok_steps F_steps F_goes G_goes b_goes g_goes x_sorted
  have G_ckPonds : FnOk l.prog w K mg base CX0 3 f_ckPonds _ ["brims"] spCkPonds := ok_ckPonds F_ckPonds F_name G_name b_name g_name F_meas G_meas b_meas g_meas x_len w_3
  have G_ckPipes : FnOk l.prog w K mg base CX0 4 f_ckPipes _ ["brims", "pipes"] (spCk2 fun _ _ => True) := ok_ckPipes F_ckPipes F_pairOf G_pairOf b_pairOf g_pairOf F_meas G_meas b_meas g_meas
  have G_ckSides : FnOk l.prog w K mg base CX0 2 f_ckSides _ ["brims", "pipes"] (spCk2 Fit) := ok_ckSides F_ckSides F_goes G_goes b_goes g_goes F_comes G_comes b_comes g_comes x_sorted
  have G_ckWays : FnOk l.prog w K mg base CX0 3 f_ckWays _ ["brims", "pipes"] (spCk2 fun B Pp => ∀ x ∈ nms B, Opn B Pp x) := ok_ckWays F_ckWays F_steps G_steps b_steps g_steps x_sorted
  have G_pOut : FnOk l.prog w K mg base CX0 1 f_pOut _ ["pipes", "name"] (spSide outsOf) := ok_PipesOut F_pOut
  have G_pIn : FnOk l.prog w K mg base CX0 1 f_pIn _ ["pipes", "name"] (spSide insOf) := ok_PipesIn F_pIn
  have G_nI : FnOk l.prog w K mg base CX0 5 f_nI _ ["self", "brims", "pipes"] (spNInit C) := ok_nInit F_nI T F_ckPonds G_ckPonds b_ckPonds g_ckPonds F_ckPipes G_ckPipes b_ckPipes g_ckPipes F_ckSides G_ckSides b_ckSides g_ckSides F_ckWays G_ckWays b_ckWays g_ckWays F_pOut G_pOut b_pOut g_pOut F_pIn G_pIn b_pIn g_pIn x_isinstance x_dict x_sorted
  have G_has : FnOk l.prog w K mg base CX0 3 f_has _ ["self", "thing"] (spHas C) := ok_has F_has T F_pondOf G_pondOf b_pondOf g_pondOf
  have G_chk : FnOk l.prog w K mg base CX0 4 f_chk _ ["self", "thing"] (spChk C) := ok_chk F_chk T m_has G_has b_has
  have G_ponds : FnOk l.prog w K mg base CX0 1 f_ponds _ ["self"] (spPonds C) := ok_ponds F_ponds T x_list
  have G_brim : FnOk l.prog w K mg base CX0 5 f_brim _ ["self", "name"] (spBrim C) := ok_brim F_brim T m_chk G_chk b_chk
  have G_ins : FnOk l.prog w K mg base CX0 5 f_ins _ ["self", "name"] (spIns C) := ok_ins F_ins T m_chk G_chk b_chk x_list
  have G_brims : FnOk l.prog w K mg base CX0 1 f_brims _ ["self"] (spBrims C) := ok_brims F_brims T
  have G_pipes : FnOk l.prog w K mg base CX0 1 f_pipes _ ["self"] (spPipes C) := ok_pipes F_pipes T
  have G_wrong : FnOk l.prog w K mg base CX0 4 f_wrong _ ["net", "table"] (spWrong C) := ok_wrong F_wrong T m_has G_has b_has F_whole G_whole b_whole g_whole x_isinstance x_dict
  have G_forAll : FnOk l.prog w K mg base CX0 2 f_forAll _ ["net", "table"] (spForAll C) := ok_forAll F_forAll T m_ponds G_ponds b_ponds
  have G_sI : FnOk l.prog w K mg base CX0 5 f_sI _ ["self", "net", "poured", "counts"] (spSInit CS C) := ok_sInit F_sI TS F_wrong G_wrong b_wrong g_wrong F_forAll G_forAll b_forAll g_forAll
  have G_snet : FnOk l.prog w K mg base CX0 1 f_snet _ ["self"] (spSNet CS C) := ok_sNet F_snet TS
  have G_water : FnOk l.prog w K mg base CX0 6 f_water _ ["self", "name"] (spWater CS C) := ok_water F_water TS T m_ins G_ins b_ins m_brim G_brim b_brim x_sum
  have G_pours : FnOk l.prog w K mg base CX0 1 f_pours _ ["self"] (spPours CS C) := ok_pours F_pours TS
  have G_counts : FnOk l.prog w K mg base CX0 1 f_counts _ ["self"] (spCounts CS C) := ok_counts F_counts TS
  have G_pot : FnOk l.prog w K mg base CX0 1 f_pot _ ["_law_script", "_law_k"] (spPot K) := ok_pot F_pot x_len x_max x_abs
  have G_draw : FnOk l.prog w K mg base CX0 1 f_draw _ ["_law_pot_here", "_law_many"] spDraw := ok_draw F_draw x_divmod
  have G_width : FnOk l.prog w K mg base CX0 5 f_width _ ["self", "one", "other"] (spWidth C) := ok_width F_width T m_chk G_chk b_chk
  have G_balRow : FnOk l.prog w K mg base CX0 6 f_balRow _ ["net", "waters", "name"] (spBalRow C) := ok_balRow F_balRow T m_width G_width b_width m_ponds G_ponds b_ponds m_brim G_brim b_brim
  have G_solved : FnOk l.prog w K mg base CX0 1 f_solved _ ["rows", "at", "bottom"] spSolved := ok_solved F_solved x_zip
  have G_still : FnOk l.prog w K mg base CX0 1 f_still _ ["rows", "spilt"] spStill := ok_still F_still x_range x_len
  have G_least : FnOk l.prog w K mg base CX0 7 f_least _ ["net", "waters"] (spLeast C) := ok_least F_least T m_ponds G_ponds b_ponds F_balRow G_balRow b_balRow g_balRow F_still G_still b_still g_still F_solved G_solved b_solved g_solved x_enumerate
  have G_lout : FnOk l.prog w K mg base CX0 1 f_lout _ ["_law_pipes", "_law_name_here"] spLOut := ok_lOut F_lout x_sum
  have G_lin : FnOk l.prog w K mg base CX0 1 f_lin _ ["_law_pipes", "_law_name_here"] spLIn := ok_lIn F_lin x_sum
  have G_closed : FnOk l.prog w K mg base CX0 2 f_closed _ ["_law_brims", "_law_pipes"] spClosed := ok_closed F_closed F_lout G_lout b_lout g_lout x_sorted x_range x_len x_all
  have G_lname : FnOk l.prog w K mg base CX0 2 f_lname _ ["_law_pot_here", "_law_taken"] spLName := ok_lname F_lname F_draw G_draw b_draw g_draw x_range x_len
  have G_lnet : FnOk l.prog w K mg base CX0 3 f_lnet _ ["_law_pot_here", "_law_most", "_law_high"] spNet := ok_net F_lnet F_draw G_draw b_draw g_draw F_lname G_lname b_lname g_lname F_lout G_lout b_lout g_lout F_lin G_lin b_lin g_lin F_closed G_closed b_closed g_closed x_range x_len x_min x_sorted
  have G_lpoured : FnOk l.prog w K mg base CX0 2 f_lpoured _ ["_law_pot_here", "_law_brims"] spLPoured := ok_lpoured F_lpoured F_draw G_draw b_draw g_draw x_max
  have G_gcd : FnOk l.prog w K mg base CX0 1 f_gcd _ ["one", "other"] spGcd := ok_gcd F_gcd
  have G_frac : FnOk l.prog w K mg base CX0 2 f_frac _ ["top", "bottom"] spFrac := ok_frac (k := 0) F_frac F_gcd G_gcd b_gcd g_gcd
  have G_shares : FnOk l.prog w K mg base CX0 8 f_shares _ ["net", "poured"] (spSharesT C) := ok_sharesT F_shares TS F_least G_least b_least g_least F_frac G_frac b_frac g_frac m_pours G_pours b_pours MS G_sI b_s2 v_s2
  have GX_name : FnOk l.prog w K mg base CX0 1 f_name _ ["thing"] (spNameX K) := ok_nameX F_name x_isinstance x_str x_len x_all w_0 w_1
  have GX_pondOf : FnOk l.prog w K mg base CX0 2 f_pondOf _ ["brims", "thing"] (spPondOfX K) := ok_pondOfX F_pondOf F_name GX_name b_name g_name
  have GT_has : FnOk l.prog w K mg base CX0 3 f_has _ ["self", "thing"] (spHasT K C) := ok_hasT F_has T G_has F_pondOf GX_pondOf b_pondOf g_pondOf
  have GY_whole : FnOk l.prog w K mg base CX0 1 f_whole _ ["thing", "least"] (spWholeY K) := ok_wholeY F_whole x_isinstance x_int x_bool
  have GX_wrong : FnOk l.prog w K mg base CX0 4 f_wrong _ ["net", "table"] (spWrongB w K C) := ok_wrongB F_wrong T m_has GT_has b_has F_whole G_whole GY_whole b_whole g_whole x_isinstance x_dict
  have G_CP : FnOk l.prog w K mg base CX0 1 f_CP _ ["self", "name"] (spXNm CP) := ok_xBadP X_CP n_P
  have G_CU : FnOk l.prog w K mg base CX0 1 f_CU _ ["self", "name"] (spXNm CU) := ok_xBadC X_CU n_U
  have GX_sI : FnOk l.prog w K mg base (L2.CX l.prog w) 5 f_sI _ ["self", "net", "poured", "counts"] (spSInitO w K CS C CP CU) := ok_sInitO F_sI F_wrong G_wrong GX_wrong b_wrong g_wrong X_CP G_CP b_CP g_CP X_CU G_CU b_CU g_CU
  have GX_shares : FnOk l.prog w K mg base (L2.CX l.prog w) 8 f_shares _ ["net", "poured"] (spSharesX w K C CP) := ok_sharesX F_shares TS MS GX_sI b_s2 v_s2 F_least G_least b_least g_least m_pours G_pours b_pours
  have G_ldiv : FnOk l.prog w K mg base CX0 1 f_ldiv _ ["_law_one", "_law_other"] (spLDiv) := ok_ldiv F_ldiv T TS
  have G_isShare : FnOk l.prog w K mg base CX0 2 f_isShare _ ["_law_thing"] (spIsShare) := ok_isShare F_isShare T TS F_ldiv G_ldiv b_ldiv g_ldiv x_all x_bool x_int x_isinstance x_len x_tuple
  have G_hold : FnOk l.prog w K mg base CX0 3 f_hold _ ["_law_told", "_law_brims", "_law_pipes", "_law_inflow"] (spHold K) := ok_hold F_hold T TS F_isShare G_isShare b_isShare g_isShare F_ldiv G_ldiv b_ldiv g_ldiv x_all x_dict x_isinstance x_sorted x_sum
  have G_refused : FnOk l.prog w K mg base CX0 9 f_refused _ ["_law_web", "_law_inflow"] (spRefd w K C) := ok_refd F_refused T TS XB_ F_shares GX_shares b_shares g_shares x_ValueError x_isinstance
  have G_bad : FnOk l.prog w K mg base CX0 2 f_bad _ ["_law_pot_here", "_law_brims", "_law_inflow"] (spBad w K) := ok_bad F_bad T TS F_draw G_draw b_draw g_draw x_dict x_len x_sorted
  exact ok_law F_law T TS k_sys kb_shares F_pot G_pot b_pot g_pot F_lnet G_lnet b_lnet g_lnet F_lpoured G_lpoured b_lpoured g_lpoured MN G_nI b_n v_n F_shares G_shares b_shares g_shares F_hold G_hold b_hold g_hold F_bad G_bad b_bad g_bad F_draw G_draw b_draw g_draw F_refused G_refused b_refused g_refused x_dict x_len x_max x_min x_range x_repr
end Nl
end
set_option maxHeartbeats 0
namespace Nl
open PySem PySem.Spec PyProof.Rows L2
theorem facts {l : PySem.W.OpenLaw} {w : World} {K : PySem.W.Frag} {h : Heap} {mg : Str → Option Value} {fa : Addr} (X : K.In h) (G : h.Ns mainGlobals mg) (hfa : mg "law" = some (.ref fa)) (c : He.SaysD faAll fnAll K) (e : exAll K = true) (xx : xiAll K = xiVals) (hfile : l.prog.main.file = PySem.Challenge.pw_backwater_k34_shares_hold.main.file) (htop : (l.prog.main.scope.names.lookup ("super" : Str)).isSome = false) :
    ∃ fd : FuncData, (∀ (s : Shared) (v : Value), BindsTo s fd ⟨[v], []⟩ [("_law_script", v)]) ∧ ∀ base : Heap, K.In base → base.Ns mainGlobals mg → Rl.FnG l.prog w K mg base CX0 10 fa fd ["_law_script"] (spLaw K) := by
  have e1 := hfa.symm.trans (He.glo_ok X G (c.fact 36 (f := .glo "law") rfl))
  cases e1
  obtain ⟨e_0, e⟩ := He.ba e
  have x_CP : Rl.xiB K (He.ga K "BadPoured") (He.ma K (He.ga K "BadPoured") "__init__") PySem.Challenge.pw_backwater_k34_shares_hold.main.file "BadPoured.__init__" = true := e_0
  obtain ⟨e_1, e⟩ := He.ba e
  have x_CU : Rl.xiB K (He.ga K "BadCount") (He.ma K (He.ga K "BadCount") "__init__") PySem.Challenge.pw_backwater_k34_shares_hold.main.file "BadCount.__init__" = true := e_1
  obtain ⟨e_2, e⟩ := He.ba e
  have e_k_sys : (List.lookup sysModules K).isSome = true := e_2
  obtain ⟨e_3, e⟩ := He.ba e
  have e_n_P : PySem.W.findIn K (.ref (He.ga K "BadPoured")) "name" = some none := of_decide_eq_true e_3
  obtain ⟨e_4, e⟩ := He.ba e
  have e_n_U : PySem.W.findIn K (.ref (He.ga K "BadCount")) "name" = some none := of_decide_eq_true e_4
  obtain ⟨e_5, e⟩ := He.ba e
  have e_xc_CP : Rl.xcB K (He.ga K "BadPoured") = true := e_5
  obtain ⟨e_6, e⟩ := He.ba e
  have e_k_PP : PySem.W.kitOne K (.ref (He.ga K "BadPoured")) (.ref (He.ga K "BadPoured")) = some true := of_decide_eq_true e_6
  obtain ⟨e_7, e⟩ := He.ba e
  have e_k_PE : PySem.W.kitOne K (.ref (He.ga K "BadPoured")) (.ref (He.ga K "StandError")) = some true := of_decide_eq_true e_7
  obtain ⟨e_8, e⟩ := He.ba e
  have e_k_PV : PySem.W.kitOne K (.ref (He.ga K "BadPoured")) (.type "ValueError") = some true := of_decide_eq_true e_8
  obtain ⟨e_9, e⟩ := He.ba e
  have e_k_PU : PySem.W.kitOne K (.ref (He.ga K "BadPoured")) (.ref (He.ga K "BadCount")) = some false := of_decide_eq_true e_9
  obtain ⟨e_10, e⟩ := He.ba e
  have e_k_PN : PySem.W.kitOne K (.ref (He.ga K "BadPoured")) (.ref (He.ga K "NetError")) = some false := of_decide_eq_true e_10
  obtain ⟨e_11, e⟩ := He.ba e
  have e_m_PW : PySem.W.exmOne K (.ref (He.ga K "BadPoured")) (.ref (He.ga K "WaterError")) = some true := of_decide_eq_true e_11
  have nosu := He.free_ok X G (c.fact 87 (f := .free "super") rfl)
  have w_CP : Rl.xiW K "BadPoured" = Rl.xiV xBadPoured "BadPoured.__init__" := Option.some.inj (show (xiAll K)[0]? = xiVals[0]? by rw [xx])
  obtain ⟨fd_CP, cda_CP, cc_CP, X_CP⟩ := Rl.xi_ok (mg := mg) w_CP x_CP hfile nosu htop
  have w_CU : Rl.xiW K "BadCount" = Rl.xiV xBadCount "BadCount.__init__" := Option.some.inj (show (xiAll K)[1]? = xiVals[1]? by rw [xx])
  obtain ⟨fd_CU, cda_CU, cc_CU, X_CU⟩ := Rl.xi_ok (mg := mg) w_CU x_CU hfile nosu htop
  obtain ⟨fd_whole, F_whole⟩ := c.def_ 0 (d := d_whole) rfl
  have F_whole : FunD K "is_whole" "is_whole" (defArgs sWhole) (defBody sWhole) (defScope sWhole) [] [] (He.fAd K ("is_whole", none)) fd_whole := F_whole
  have F_whole := fun_ofD F_whole
  obtain ⟨fd_name, F_name⟩ := c.def_ 1 (d := d_name) rfl
  have F_name : FunD K "is_name" "is_name" (defArgs sName) (defBody sName) (defScope sName) [] [] (He.fAd K ("is_name", none)) fd_name := F_name
  have F_name := fun_ofD F_name
  obtain ⟨fd_meas, F_meas⟩ := c.def_ 2 (d := d_meas) rfl
  have F_meas : FunD K "is_measure" "is_measure" (defArgs sMeas) (defBody sMeas) (defScope sMeas) [] [] (He.fAd K ("is_measure", none)) fd_meas := F_meas
  have F_meas := fun_ofD F_meas
  obtain ⟨fd_pondOf, F_pondOf⟩ := c.def_ 3 (d := d_pondOf) rfl
  have F_pondOf : FunD K "is_pond_of" "is_pond_of" (defArgs sPondOf) (defBody sPondOf) (defScope sPondOf) [] [] (He.fAd K ("is_pond_of", none)) fd_pondOf := F_pondOf
  have F_pondOf := fun_ofD F_pondOf
  obtain ⟨fd_pairOf, F_pairOf⟩ := c.def_ 4 (d := d_pairOf) rfl
  have F_pairOf : FunD K "is_pair_of" "is_pair_of" (defArgs sPairOf) (defBody sPairOf) (defScope sPairOf) [] [] (He.fAd K ("is_pair_of", none)) fd_pairOf := F_pairOf
  have F_pairOf := fun_ofD F_pairOf
  obtain ⟨fd_goes, F_goes⟩ := c.def_ 5 (d := d_goes) rfl
  have F_goes : FunD K "goes_out" "goes_out" (defArgs sGoes) (defBody sGoes) (defScope sGoes) [] [] (He.fAd K ("goes_out", none)) fd_goes := F_goes
  have F_goes := fun_ofD F_goes
  obtain ⟨fd_comes, F_comes⟩ := c.def_ 6 (d := d_comes) rfl
  have F_comes : FunD K "comes_in" "comes_in" (defArgs sComes) (defBody sComes) (defScope sComes) [] [] (He.fAd K ("comes_in", none)) fd_comes := F_comes
  have F_comes := fun_ofD F_comes
  obtain ⟨fd_steps, F_steps⟩ := c.def_ 7 (d := d_steps) rfl
  have F_steps : FunD K "steps_out" "steps_out" (defArgs sSteps) (defBody sSteps) (defScope sSteps) [] [] (He.fAd K ("steps_out", none)) fd_steps := F_steps
  have F_steps := fun_ofD F_steps
  obtain ⟨fd_pOut, F_pOut⟩ := c.def_ 8 (d := d_pOut) rfl
  have F_pOut : FunD K "pipes_out" "pipes_out" (defArgs sPipesOut) (defBody sPipesOut) (defScope sPipesOut) [] [] (He.fAd K ("pipes_out", none)) fd_pOut := F_pOut
  have F_pOut := fun_ofD F_pOut
  obtain ⟨fd_pIn, F_pIn⟩ := c.def_ 9 (d := d_pIn) rfl
  have F_pIn : FunD K "pipes_in" "pipes_in" (defArgs sPipesIn) (defBody sPipesIn) (defScope sPipesIn) [] [] (He.fAd K ("pipes_in", none)) fd_pIn := F_pIn
  have F_pIn := fun_ofD F_pIn
  obtain ⟨fd_ckPonds, F_ckPonds⟩ := c.def_ 10 (d := d_ckPonds) rfl
  have F_ckPonds : FunD K "check_ponds" "check_ponds" (defArgs sCkPonds) (defBody sCkPonds) (defScope sCkPonds) [] [] (He.fAd K ("check_ponds", none)) fd_ckPonds := F_ckPonds
  have F_ckPonds := fun_ofD F_ckPonds
  obtain ⟨fd_ckPipes, F_ckPipes⟩ := c.def_ 11 (d := d_ckPipes) rfl
  have F_ckPipes : FunD K "check_pipes" "check_pipes" (defArgs sCkPipes) (defBody sCkPipes) (defScope sCkPipes) [] [] (He.fAd K ("check_pipes", none)) fd_ckPipes := F_ckPipes
  have F_ckPipes := fun_ofD F_ckPipes
  obtain ⟨fd_ckSides, F_ckSides⟩ := c.def_ 12 (d := d_ckSides) rfl
  have F_ckSides : FunD K "check_sides" "check_sides" (defArgs sCkSides) (defBody sCkSides) (defScope sCkSides) [] [] (He.fAd K ("check_sides", none)) fd_ckSides := F_ckSides
  have F_ckSides := fun_ofD F_ckSides
  obtain ⟨fd_ckWays, F_ckWays⟩ := c.def_ 13 (d := d_ckWays) rfl
  have F_ckWays : FunD K "check_ways" "check_ways" (defArgs sCkWays) (defBody sCkWays) (defScope sCkWays) [] [] (He.fAd K ("check_ways", none)) fd_ckWays := F_ckWays
  have F_ckWays := fun_ofD F_ckWays
  obtain ⟨fd_wrong, F_wrong⟩ := c.def_ 14 (d := d_wrong) rfl
  have F_wrong : FunD K "wrong_keys" "wrong_keys" (defArgs sWrong) (defBody sWrong) (defScope sWrong) [] [] (He.fAd K ("wrong_keys", none)) fd_wrong := F_wrong
  have F_wrong := fun_ofD F_wrong
  obtain ⟨fd_forAll, F_forAll⟩ := c.def_ 15 (d := d_forAll) rfl
  have F_forAll : FunD K "for_all_ponds" "for_all_ponds" (defArgs sForAll) (defBody sForAll) (defScope sForAll) [] [] (He.fAd K ("for_all_ponds", none)) fd_forAll := F_forAll
  have F_forAll := fun_ofD F_forAll
  obtain ⟨fd_pot, F_pot⟩ := c.def_ 16 (d := d_pot) rfl
  have F_pot : FunD K "_law_pot" "_law_pot" (defArgs sPot) (defBody sPot) (defScope sPot) [] [] (He.fAd K ("_law_pot", none)) fd_pot := F_pot
  have F_pot := fun_ofD F_pot
  obtain ⟨fd_draw, F_draw⟩ := c.def_ 17 (d := d_draw) rfl
  have F_draw : FunD K "_law_draw" "_law_draw" (defArgs sDraw) (defBody sDraw) (defScope sDraw) [] [] (He.fAd K ("_law_draw", none)) fd_draw := F_draw
  have F_draw := fun_ofD F_draw
  obtain ⟨fd_lname, F_lname⟩ := c.def_ 18 (d := d_lname) rfl
  have F_lname : FunD K "_law_name" "_law_name" (defArgs sLName) (defBody sLName) (defScope sLName) [] [] (He.fAd K ("_law_name", none)) fd_lname := F_lname
  have F_lname := fun_ofD F_lname
  obtain ⟨fd_balRow, F_balRow⟩ := c.def_ 19 (d := d_balRow) rfl
  have F_balRow : FunD K "balance_row" "balance_row" (defArgs sBalRow) (defBody sBalRow) (defScope sBalRow) [] [] (He.fAd K ("balance_row", none)) fd_balRow := F_balRow
  have F_balRow := fun_ofD F_balRow
  obtain ⟨fd_solved, F_solved⟩ := c.def_ 20 (d := d_solved) rfl
  have F_solved : FunD K "solved_for" "solved_for" (defArgs sSolved) (defBody sSolved) (defScope sSolved) [] [] (He.fAd K ("solved_for", none)) fd_solved := F_solved
  have F_solved := fun_ofD F_solved
  obtain ⟨fd_still, F_still⟩ := c.def_ 21 (d := d_still) rfl
  have F_still : FunD K "still_over" "still_over" (defArgs sStill) (defBody sStill) (defScope sStill) [] [] (He.fAd K ("still_over", none)) fd_still := F_still
  have F_still := fun_ofD F_still
  obtain ⟨fd_least, F_least⟩ := c.def_ 22 (d := d_least) rfl
  have F_least : FunD K "least_tops" "least_tops" (defArgs sLeast) (defBody sLeast) (defScope sLeast) [] [] (He.fAd K ("least_tops", none)) fd_least := F_least
  have F_least := fun_ofD F_least
  obtain ⟨fd_lout, F_lout⟩ := c.def_ 23 (d := d_lout) rfl
  have F_lout : FunD K "_law_out" "_law_out" (defArgs sLOut) (defBody sLOut) (defScope sLOut) [] [] (He.fAd K ("_law_out", none)) fd_lout := F_lout
  have F_lout := fun_ofD F_lout
  obtain ⟨fd_lin, F_lin⟩ := c.def_ 24 (d := d_lin) rfl
  have F_lin : FunD K "_law_in" "_law_in" (defArgs sLIn) (defBody sLIn) (defScope sLIn) [] [] (He.fAd K ("_law_in", none)) fd_lin := F_lin
  have F_lin := fun_ofD F_lin
  obtain ⟨fd_closed, F_closed⟩ := c.def_ 25 (d := d_closed) rfl
  have F_closed : FunD K "_law_closed" "_law_closed" (defArgs sClosed) (defBody sClosed) (defScope sClosed) [] [] (He.fAd K ("_law_closed", none)) fd_closed := F_closed
  have F_closed := fun_ofD F_closed
  obtain ⟨fd_lnet, F_lnet⟩ := c.def_ 26 (d := d_lnet) rfl
  have F_lnet : FunD K "_law_net" "_law_net" (defArgs sNet) (defBody sNet) (defScope sNet) [] [] (He.fAd K ("_law_net", none)) fd_lnet := F_lnet
  have F_lnet := fun_ofD F_lnet
  obtain ⟨fd_lpoured, F_lpoured⟩ := c.def_ 27 (d := d_lpoured) rfl
  have F_lpoured : FunD K "_law_poured" "_law_poured" (defArgs sLPoured) (defBody sLPoured) (defScope sLPoured) [] [] (He.fAd K ("_law_poured", none)) fd_lpoured := F_lpoured
  have F_lpoured := fun_ofD F_lpoured
  obtain ⟨fd_gcd, F_gcd⟩ := c.def_ 28 (d := d_gcd) rfl
  have F_gcd : FunD K "common_divisor" "common_divisor" (defArgs sGcd) (defBody sGcd) (defScope sGcd) [] [] (He.fAd K ("common_divisor", none)) fd_gcd := F_gcd
  have F_gcd := fun_ofD F_gcd
  obtain ⟨fd_frac, F_frac⟩ := c.def_ 29 (d := d_frac) rfl
  have F_frac : FunD K "fraction" "fraction" (defArgs sFrac) (defBody sFrac) (defScope sFrac) [] [] (He.fAd K ("fraction", none)) fd_frac := F_frac
  have F_frac := fun_ofD F_frac
  obtain ⟨fd_shares, F_shares⟩ := c.def_ 30 (d := d_shares) rfl
  have F_shares : FunD K "shares" "shares" (defArgs sShares) (defBody sShares) (defScope sShares) [] [] (He.fAd K ("shares", none)) fd_shares := F_shares
  have F_shares := fun_ofD F_shares
  obtain ⟨fd_ldiv, F_ldiv⟩ := c.def_ 31 (d := d_ldiv) rfl
  have F_ldiv : FunD K "_law_divisor" "_law_divisor" (defArgs s_law_divisor) (defBody s_law_divisor) (defScope s_law_divisor) [] [] (He.fAd K ("_law_divisor", none)) fd_ldiv := F_ldiv
  have F_ldiv := fun_ofD F_ldiv
  obtain ⟨fd_isShare, F_isShare⟩ := c.def_ 32 (d := d_isShare) rfl
  have F_isShare : FunD K "_law_is_share" "_law_is_share" (defArgs s_law_is_share) (defBody s_law_is_share) (defScope s_law_is_share) [] [] (He.fAd K ("_law_is_share", none)) fd_isShare := F_isShare
  have F_isShare := fun_ofD F_isShare
  obtain ⟨fd_hold, F_hold⟩ := c.def_ 33 (d := d_hold) rfl
  have F_hold : FunD K "_law_hold" "_law_hold" (defArgs s_law_hold) (defBody s_law_hold) (defScope s_law_hold) [] [] (He.fAd K ("_law_hold", none)) fd_hold := F_hold
  have F_hold := fun_ofD F_hold
  obtain ⟨fd_refused, F_refused⟩ := c.def_ 34 (d := d_refused) rfl
  have F_refused : FunD K "_law_refused" "_law_refused" (defArgs sRefused) (defBody sRefused) (defScope sRefused) [] [] (He.fAd K ("_law_refused", none)) fd_refused := F_refused
  have F_refused := fun_ofD F_refused
  obtain ⟨fd_bad, F_bad⟩ := c.def_ 35 (d := d_bad) rfl
  have F_bad : FunD K "_law_bad" "_law_bad" (defArgs s_law_bad) (defBody s_law_bad) (defScope s_law_bad) [] [] (He.fAd K ("_law_bad", none)) fd_bad := F_bad
  have F_bad := fun_ofD F_bad
  obtain ⟨fd_law, F_law⟩ := c.def_ 36 (d := d_law) rfl
  have F_law : FunD K "law" "law" (defArgs sLaw) (defBody sLaw) (defScope sLaw) [] [] (He.fAd K ("law", none)) fd_law := F_law
  obtain ⟨fd_has, F_has⟩ := c.def_ 37 (d := d_has) rfl
  have F_has : FunD K "has_pond" "Net.has_pond" (defArgs mNet_has_pond) (defBody mNet_has_pond) (defScope mNet_has_pond) [] [] (He.fAd K ("Net", some "has_pond")) fd_has := F_has
  have F_has := fun_ofD F_has
  obtain ⟨fd_chk, F_chk⟩ := c.def_ 38 (d := d_chk) rfl
  have F_chk : FunD K "check_pond" "Net.check_pond" (defArgs mNet_check_pond) (defBody mNet_check_pond) (defScope mNet_check_pond) [] [] (He.fAd K ("Net", some "check_pond")) fd_chk := F_chk
  have F_chk := fun_ofD F_chk
  obtain ⟨fd_ponds, F_ponds⟩ := c.def_ 39 (d := d_ponds) rfl
  have F_ponds : FunD K "ponds" "Net.ponds" (defArgs mNet_ponds) (defBody mNet_ponds) (defScope mNet_ponds) [] [] (He.fAd K ("Net", some "ponds")) fd_ponds := F_ponds
  have F_ponds := fun_ofD F_ponds
  obtain ⟨fd_brim, F_brim⟩ := c.def_ 40 (d := d_brim) rfl
  have F_brim : FunD K "brim" "Net.brim" (defArgs mNet_brim) (defBody mNet_brim) (defScope mNet_brim) [] [] (He.fAd K ("Net", some "brim")) fd_brim := F_brim
  have F_brim := fun_ofD F_brim
  obtain ⟨fd_ins, F_ins⟩ := c.def_ 41 (d := d_ins) rfl
  have F_ins : FunD K "ins" "Net.ins" (defArgs mNet_ins) (defBody mNet_ins) (defScope mNet_ins) [] [] (He.fAd K ("Net", some "ins")) fd_ins := F_ins
  have F_ins := fun_ofD F_ins
  obtain ⟨fd_brims, F_brims⟩ := c.def_ 42 (d := d_brims) rfl
  have F_brims : FunD K "brims" "Net.brims" (defArgs mNet_brims) (defBody mNet_brims) (defScope mNet_brims) [] [] (He.fAd K ("Net", some "brims")) fd_brims := F_brims
  have F_brims := fun_ofD F_brims
  obtain ⟨fd_pipes, F_pipes⟩ := c.def_ 43 (d := d_pipes) rfl
  have F_pipes : FunD K "pipes" "Net.pipes" (defArgs mNet_pipes) (defBody mNet_pipes) (defScope mNet_pipes) [] [] (He.fAd K ("Net", some "pipes")) fd_pipes := F_pipes
  have F_pipes := fun_ofD F_pipes
  obtain ⟨fd_snet, F_snet⟩ := c.def_ 44 (d := d_snet) rfl
  have F_snet : FunD K "net" "Stand.net" (defArgs mStand_net) (defBody mStand_net) (defScope mStand_net) [] [] (He.fAd K ("Stand", some "net")) fd_snet := F_snet
  have F_snet := fun_ofD F_snet
  obtain ⟨fd_water, F_water⟩ := c.def_ 45 (d := d_water) rfl
  have F_water : FunD K "water" "Stand.water" (defArgs mStand_water) (defBody mStand_water) (defScope mStand_water) [] [] (He.fAd K ("Stand", some "water")) fd_water := F_water
  have F_water := fun_ofD F_water
  obtain ⟨fd_pours, F_pours⟩ := c.def_ 46 (d := d_pours) rfl
  have F_pours : FunD K "pours" "Stand.pours" (defArgs mStand_pours) (defBody mStand_pours) (defScope mStand_pours) [] [] (He.fAd K ("Stand", some "pours")) fd_pours := F_pours
  have F_pours := fun_ofD F_pours
  obtain ⟨fd_counts, F_counts⟩ := c.def_ 47 (d := d_counts) rfl
  have F_counts : FunD K "counts" "Stand.counts" (defArgs mStand_counts) (defBody mStand_counts) (defScope mStand_counts) [] [] (He.fAd K ("Stand", some "counts")) fd_counts := F_counts
  have F_counts := fun_ofD F_counts
  obtain ⟨fd_width, F_width⟩ := c.def_ 48 (d := d_width) rfl
  have F_width : FunD K "width" "Net.width" (defArgs mNet_width) (defBody mNet_width) (defScope mNet_width) [] [] (He.fAd K ("Net", some "width")) fd_width := F_width
  have F_width := fun_ofD F_width
  obtain ⟨fd_nI, F_nI⟩ := c.def_ 49 (d := d_nI) rfl
  have F_nI : FunD K "__init__" "Net.__init__" (defArgs mNet_init) (defBody mNet_init) (defScope mNet_init) [.non] [] (He.fAd K ("Net", some "__init__")) fd_nI := F_nI
  obtain ⟨fd_sI, F_sI⟩ := c.def_ 50 (d := d_sI) rfl
  have F_sI : FunD K "__init__" "Stand.__init__" (defArgs mStand_init) (defBody mStand_init) (defScope mStand_init) [.non, .non] [] (He.fAd K ("Stand", some "__init__")) fd_sI := F_sI
  obtain ⟨tk_0, w_0⟩ := He.int_ok X G (c.fact 88 (f := .int "MOST_LETTERS" 8) rfl)
  obtain ⟨tk_1, w_1⟩ := He.str_ok X G (c.fact 89 (f := .str "LETTERS" abc) rfl)
  obtain ⟨tk_2, w_2⟩ := He.int_ok X G (c.fact 90 (f := .int "MOST_BRIM" 60) rfl)
  obtain ⟨tk_3, w_3⟩ := He.int_ok X G (c.fact 91 (f := .int "MOST_PONDS" 12) rfl)
  exact all_test (h := h) F_whole (He.glo_ok X G (c.fact 0 (f := .glo "is_whole") rfl)) F_name (He.glo_ok X G (c.fact 1 (f := .glo "is_name") rfl)) F_meas (He.glo_ok X G (c.fact 2 (f := .glo "is_measure") rfl)) F_pondOf (He.glo_ok X G (c.fact 3 (f := .glo "is_pond_of") rfl)) F_pairOf (He.glo_ok X G (c.fact 4 (f := .glo "is_pair_of") rfl)) F_goes (He.glo_ok X G (c.fact 5 (f := .glo "goes_out") rfl)) F_comes (He.glo_ok X G (c.fact 6 (f := .glo "comes_in") rfl)) F_steps (He.glo_ok X G (c.fact 7 (f := .glo "steps_out") rfl)) F_pOut (He.glo_ok X G (c.fact 8 (f := .glo "pipes_out") rfl)) F_pIn (He.glo_ok X G (c.fact 9 (f := .glo "pipes_in") rfl)) F_ckPonds (He.glo_ok X G (c.fact 10 (f := .glo "check_ponds") rfl)) F_ckPipes (He.glo_ok X G (c.fact 11 (f := .glo "check_pipes") rfl)) F_ckSides (He.glo_ok X G (c.fact 12 (f := .glo "check_sides") rfl)) F_ckWays (He.glo_ok X G (c.fact 13 (f := .glo "check_ways") rfl)) F_wrong (He.glo_ok X G (c.fact 14 (f := .glo "wrong_keys") rfl)) F_forAll (He.glo_ok X G (c.fact 15 (f := .glo "for_all_ponds") rfl)) F_pot (He.glo_ok X G (c.fact 16 (f := .glo "_law_pot") rfl)) F_draw (He.glo_ok X G (c.fact 17 (f := .glo "_law_draw") rfl)) F_lname (He.glo_ok X G (c.fact 18 (f := .glo "_law_name") rfl)) F_balRow (He.glo_ok X G (c.fact 19 (f := .glo "balance_row") rfl)) F_solved (He.glo_ok X G (c.fact 20 (f := .glo "solved_for") rfl)) F_still (He.glo_ok X G (c.fact 21 (f := .glo "still_over") rfl)) F_least (He.glo_ok X G (c.fact 22 (f := .glo "least_tops") rfl)) F_lout (He.glo_ok X G (c.fact 23 (f := .glo "_law_out") rfl)) F_lin (He.glo_ok X G (c.fact 24 (f := .glo "_law_in") rfl)) F_closed (He.glo_ok X G (c.fact 25 (f := .glo "_law_closed") rfl)) F_lnet (He.glo_ok X G (c.fact 26 (f := .glo "_law_net") rfl)) F_lpoured (He.glo_ok X G (c.fact 27 (f := .glo "_law_poured") rfl)) F_gcd (He.glo_ok X G (c.fact 28 (f := .glo "common_divisor") rfl)) F_frac (He.glo_ok X G (c.fact 29 (f := .glo "fraction") rfl)) F_shares (He.glo_ok X G (c.fact 30 (f := .glo "shares") rfl)) F_ldiv (He.glo_ok X G (c.fact 31 (f := .glo "_law_divisor") rfl)) F_isShare (He.glo_ok X G (c.fact 32 (f := .glo "_law_is_share") rfl)) F_hold (He.glo_ok X G (c.fact 33 (f := .glo "_law_hold") rfl)) F_refused (He.glo_ok X G (c.fact 34 (f := .glo "_law_refused") rfl)) F_bad (He.glo_ok X G (c.fact 35 (f := .glo "_law_bad") rfl)) F_law (He.glo_ok X G (c.fact 36 (f := .glo "law") rfl)) F_has (He.meth_ok (c.fact 37 (f := .meth "Net" "has_pond") rfl)) F_chk (He.meth_ok (c.fact 38 (f := .meth "Net" "check_pond") rfl)) F_ponds (He.meth_ok (c.fact 39 (f := .meth "Net" "ponds") rfl)) F_brim (He.meth_ok (c.fact 40 (f := .meth "Net" "brim") rfl)) F_ins (He.meth_ok (c.fact 41 (f := .meth "Net" "ins") rfl)) F_brims (He.meth_ok (c.fact 42 (f := .meth "Net" "brims") rfl)) F_pipes (He.meth_ok (c.fact 43 (f := .meth "Net" "pipes") rfl)) F_snet (He.meth_ok (c.fact 44 (f := .meth "Stand" "net") rfl)) F_water (He.meth_ok (c.fact 45 (f := .meth "Stand" "water") rfl)) F_pours (He.meth_ok (c.fact 46 (f := .meth "Stand" "pours") rfl)) F_counts (He.meth_ok (c.fact 47 (f := .meth "Stand" "counts") rfl)) F_width (He.meth_ok (c.fact 48 (f := .meth "Net" "width") rfl)) F_nI (He.mkr_ok (c.fact 49 (f := .mkr "Net") rfl)) F_sI (He.mkr_ok (c.fact 50 (f := .mkr "Stand") rfl)) ⟨He.cls_ok (c.fact 51 (f := .cls "Net") rfl), He.noat_ok (c.fact 52 (f := .noat "Net" "brim_by_pond") rfl), He.noat_ok (c.fact 53 (f := .noat "Net" "width_by_pair") rfl), He.noat_ok (c.fact 54 (f := .noat "Net" "outs_by_pond") rfl), He.noat_ok (c.fact 55 (f := .noat "Net" "ins_by_pond") rfl), He.glo_ok X G (c.fact 56 (f := .glo "Net") rfl)⟩ ⟨He.cls_ok (c.fact 57 (f := .cls "Stand") rfl), He.noat_ok (c.fact 58 (f := .noat "Stand" "own_net") rfl), He.noat_ok (c.fact 59 (f := .noat "Stand" "poured_by_pond") rfl), He.noat_ok (c.fact 60 (f := .noat "Stand" "count_by_pond") rfl), He.glo_ok X G (c.fact 61 (f := .glo "Stand") rfl)⟩ X_CP (He.glo_ok X G (c.fact 62 (f := .glo "BadPoured") rfl)) X_CU (He.glo_ok X G (c.fact 63 (f := .glo "BadCount") rfl)) (He.glo_ok X G (c.fact 64 (f := .glo "WaterError") rfl)) (He.glo_ok X G (c.fact 65 (f := .glo "StandError") rfl)) (He.glo_ok X G (c.fact 66 (f := .glo "NetError") rfl)) e_k_sys e_n_P e_n_U e_xc_CP e_k_PP e_k_PE e_k_PV e_k_PU e_k_PN e_m_PW (He.free_ok X G (c.fact 67 (f := .free "isinstance") rfl)) (He.free_ok X G (c.fact 68 (f := .free "int") rfl)) (He.free_ok X G (c.fact 69 (f := .free "bool") rfl)) (He.free_ok X G (c.fact 70 (f := .free "str") rfl)) (He.free_ok X G (c.fact 71 (f := .free "len") rfl)) (He.free_ok X G (c.fact 72 (f := .free "all") rfl)) (He.free_ok X G (c.fact 73 (f := .free "tuple") rfl)) (He.free_ok X G (c.fact 74 (f := .free "sum") rfl)) (He.free_ok X G (c.fact 75 (f := .free "sorted") rfl)) (He.free_ok X G (c.fact 76 (f := .free "dict") rfl)) (He.free_ok X G (c.fact 77 (f := .free "list") rfl)) (He.free_ok X G (c.fact 78 (f := .free "divmod") rfl)) (He.free_ok X G (c.fact 79 (f := .free "max") rfl)) (He.free_ok X G (c.fact 80 (f := .free "abs") rfl)) (He.free_ok X G (c.fact 81 (f := .free "range") rfl)) (He.free_ok X G (c.fact 82 (f := .free "min") rfl)) (He.free_ok X G (c.fact 83 (f := .free "repr") rfl)) (He.free_ok X G (c.fact 84 (f := .free "ValueError") rfl)) (He.free_ok X G (c.fact 85 (f := .free "zip") rfl)) (He.free_ok X G (c.fact 86 (f := .free "enumerate") rfl)) (He.free_ok X G (c.fact 87 (f := .free "super") rfl)) w_0 w_1 w_2 w_3
end Nl
open PySem PySem.W PySem.Calls PyProof.Rows
set_option maxHeartbeats 0 in
theorem PySem.Challenge.cw_backwater_k34_shares_hold_holds : PySem.Challenge.rw_backwater_k34_shares_hold.Holds := by
  w_on; o_law
  refine HandSHeadRun.head_any (r := OpenLaw.row PySem.Challenge.rw_backwater_k34_shares_hold) (q := view (OpenLaw.row PySem.Challenge.rw_backwater_k34_shares_hold).prog [66]) (H := Nl.hookN) (ob := Nl.obN) (M := 12000) (loose := Nl.looseAll) (d := HandSHeadRun.topDef (OpenLaw.row PySem.Challenge.rw_backwater_k34_shares_hold).prog 66) (kwd := []) Nl.obN_eq
    (by kernel_rfl) (fun s => by kernel_rfl) Nl.run (by kernel_rfl) (by kernel_rfl) (by kernel_rfl) (by rfl) (by first | assumption | decide +kernel) (by decide +kernel) ⟨rfl, rfl, rfl, rfl, rfl, by decide +kernel⟩ ?hw ?hc
  case hw => w_witness2
  case hc =>
    refine Rl.walk_ofG (l := PySem.Challenge.rw_backwater_k34_shares_hold) (n := 63) (k := 10) (x := "_law_script") (CX := L2.CX0) rfl (by decide) (by kernel_rfl) ⟨rfl, by decide, by decide⟩ ?F (fun _ _ _ _ z => z)
    intro w mg fa h Y G hmg0
    obtain ⟨K, KX, c, e, xx⟩ := Y
    have hmg : mg ("law" : PySem.Str) = some (.ref fa) := by
      have e : (HandSHeadRun.topDef (OpenLaw.row PySem.Challenge.rw_backwater_k34_shares_hold).prog 66).name = ("law" : PySem.Str) := by kernel_rfl
      rw [← e]
      exact hmg0
    obtain ⟨fd, hb, hF⟩ := Nl.facts (l := PySem.Challenge.rw_backwater_k34_shares_hold) (w := w) KX G hmg c e xx rfl (by kernel_rfl)
    exact ⟨K, fd, Nl.spLaw K, KX, hb, fun H a ns hl _ hS => ⟨a, ns, rfl, hS, hl, fun _ => rfl⟩, hF⟩
