import PyProof.Rows.All
import Wide.All
import OpenK.AllK
import Wide.FinOn
import HandS.Flow
import HandS.Style
import HandS.DictComp
import HandS.ForMost
import HandS.Walk
import HandS.IsInst
import HandS.WideBits
import HandS.Wide
import HandS.Defaults
import HandS.More
import HandS.SetBool
import HandS.SetTxt0
import HandS.Set
import KE.KDictWalk
import KE.KDictSum
import KE.KSortTupG
import HandS.DictTup
import HandS.DeepEq
import HandS.WordsDict
import HandS.DictEq
import HandS.OwnEq
import HandS.Codes
import PySem.Challenge.RW_backwater_k25_many_at_once_as_one_by_one
set_option Elab.async false
set_option linter.all false
set_option maxRecDepth 100000
section
namespace Nt
open PySem
/-! ### nets, as plain lists -/
abbrev Br := List (Str × Int)
abbrev Pi := List ((Str × Str) × Int)
def nms (B : Br) : List Str := B.map (·.1)
def sumOf (f : (Str × Str) × Int → Bool) (P : Pi) : Int := ((P.filter f).map (·.2)).sum
def outW (P : Pi) (x : Str) : Int := sumOf (fun p => decide (p.1.1 = x)) P
def inW (P : Pi) (x : Str) : Int := sumOf (fun p => decide (p.1.2 = x)) P
inductive Opn (B : Br) (P : Pi) : Str → Prop
  | soak {x : Str} {b : Int} : (x, b) ∈ B → outW P x < b → Opn B P x
  | step {x y : Str} {w : Int} : ((x, y), w) ∈ P → Opn B P y → Opn B P x
structure Wf (nm : Str → Prop) (B : Br) (P : Pi) : Prop where
  nb : (nms B).Nodup
  lb : B.length ≤ 12
  rb : ∀ p ∈ B, nm p.1 ∧ 1 ≤ p.2 ∧ p.2 ≤ 60
  np : (P.map (·.1)).Nodup
  lp : P.length ≤ 200
  rp : ∀ p ∈ P, p.1.1 ∈ nms B ∧ p.1.2 ∈ nms B ∧ p.1.1 ≠ p.1.2 ∧ 1 ≤ p.2 ∧ p.2 ≤ 60
def Fit (B : Br) (P : Pi) : Prop := ∀ p ∈ B, outW P p.1 ≤ p.2 ∧ inW P p.1 ≤ p.2
theorem sumOf_nonneg {f : (Str × Str) × Int → Bool} {P : Pi} (h : ∀ p ∈ P, 0 ≤ p.2) : 0 ≤ sumOf f P := by
  unfold sumOf
  induction P with
  | nil => exact Int.le_refl _
  | cons p r ih =>
    have h1 := ih fun q hq => h q (List.mem_cons_of_mem _ hq)
    have h2 := h p List.mem_cons_self
    rw [List.filter_cons]
    split
    · rw [List.map_cons, List.sum_cons]; omega
    · exact h1
theorem perm_sum {l m : List Int} (h : l.Perm m) : l.sum = m.sum := by
  induction h with
  | nil => rfl
  | cons x _ ih => rw [List.sum_cons, List.sum_cons, ih]
  | swap x y l => simp only [List.sum_cons]; omega
  | trans _ _ a b => exact a.trans b
theorem sumOf_perm {f : (Str × Str) × Int → Bool} {P P' : Pi} (h : P.Perm P') : sumOf f P = sumOf f P' := by
  unfold sumOf
  exact perm_sum ((h.filter f).map _)
theorem outW_perm {P P' : Pi} (h : P.Perm P') (x : Str) : outW P x = outW P' x := sumOf_perm h
theorem inW_perm {P P' : Pi} (h : P.Perm P') (x : Str) : inW P x = inW P' x := sumOf_perm h
theorem Opn.perm {B B' : Br} {P P' : Pi} (hB : B.Perm B') (hP : P.Perm P') {x : Str} (h : Opn B P x) : Opn B' P' x := by
  induction h with
  | soak m l => exact .soak (hB.mem_iff.mp m) (by rw [← outW_perm hP]; exact l)
  | step m _ ih => exact .step (hP.mem_iff.mp m) ih
theorem Wf.perm {nm : Str → Prop} {B B' : Br} {P P' : Pi} (h : Wf nm B P) (hB : B.Perm B') (hP : P.Perm P') : Wf nm B' P' where
  nb := (hB.map Prod.fst).nodup_iff.mp h.nb
  lb := by rw [← hB.length_eq]; exact h.lb
  rb := fun p hp => h.rb p (hB.mem_iff.mpr hp)
  np := (hP.map Prod.fst).nodup_iff.mp h.np
  lp := by rw [← hP.length_eq]; exact h.lp
  rp := fun p hp => by
    obtain ⟨a, b, c⟩ := h.rp p (hP.mem_iff.mpr hp)
    exact ⟨(hB.map Prod.fst).mem_iff.mp a, (hB.map Prod.fst).mem_iff.mp b, c⟩
/-! ### lookups -/
def getB (B : Br) (x : Str) : Option Int := (B.find? fun p => decide (p.1 = x)).map (·.2)
theorem getB_mem {B : Br} {x : Str} {b : Int} (h : getB B x = some b) : (x, b) ∈ B := by
  unfold getB at h
  cases e : B.find? fun p => decide (p.1 = x) with
  | none => rw [e] at h; cases h
  | some p =>
    rw [e] at h
    have h1 := List.mem_of_find?_eq_some e
    have h2 := List.find?_some e
    have h3 : p.1 = x := of_decide_eq_true h2
    have h4 : p.2 = b := Option.some.inj h
    rw [← h3, ← h4]; exact h1
theorem getB_of_mem {B : Br} (nd : (nms B).Nodup) {x : Str} {b : Int} (h : (x, b) ∈ B) : getB B x = some b := by
  induction B with
  | nil => exact (List.not_mem_nil h).elim
  | cons p r ih =>
    obtain ⟨n1, n2⟩ := List.nodup_cons.mp (show (p.1 :: nms r).Nodup from nd)
    unfold getB
    rw [List.find?_cons]
    rcases List.mem_cons.mp h with e | e
    · rw [← e]; simp
    · have ne : p.1 ≠ x := fun z => n1 (by rw [z]; exact List.mem_map.mpr ⟨_, e, rfl⟩)
      rw [decide_eq_false ne]
      exact ih n2 e
theorem getB_none {B : Br} {x : Str} (h : x ∉ nms B) : getB B x = none := by
  unfold getB
  rw [List.find?_eq_none.mpr (fun p hp => by
    have : p.1 ≠ x := fun e => h (List.mem_map.mpr ⟨p, hp, e⟩)
    simpa using this)]
  rfl
theorem getB_some {B : Br} {x : Str} (h : x ∈ nms B) : ∃ b, getB B x = some b := by
  obtain ⟨p, hp, e⟩ := List.mem_map.mp h
  cases e2 : B.find? fun q => decide (q.1 = x) with
  | none =>
    have := List.find?_eq_none.mp e2 p hp
    rw [decide_eq_true e] at this
    exact absurd rfl this
  | some q => exact ⟨q.2, by unfold getB; rw [e2]; rfl⟩
/-! ### who has a way out, found step by step -/
structure Bfs (B : Br) (P : Pi) (S E : List Str) : Prop where
  nd : S.Nodup
  sub : ∀ x ∈ S, x ∈ nms B ∧ Opn B P x
  edge : ∀ x ∈ E, x ∈ S
  soak : ∀ x b, (x, b) ∈ B → outW P x < b → x ∈ S
  back : ∀ x y w, ((x, y), w) ∈ P → y ∈ S → x ∈ S ∨ y ∈ E
theorem Bfs.done {nm : Str → Prop} {B : Br} {P : Pi} {S : List Str} (h : Bfs B P S []) {x : Str} (o : Opn B P x) : x ∈ S := by
  induction o with
  | soak m l => exact h.soak _ _ m l
  | step m _ ih =>
    rcases h.back _ _ _ m ih with z | z
    · exact z
    · exact (List.not_mem_nil z).elim
/-- one round: the next edge has just those that lead into the edge and are not yet there -/
theorem Bfs.next {nm : Str → Prop} {B : Br} {P : Pi} (wf : Wf nm B P) {S E E' : List Str} (h : Bfs B P S E) (nd' : E'.Nodup) (he : ∀ x, x ∈ E' ↔ (∃ y w, ((x, y), w) ∈ P ∧ y ∈ E) ∧ x ∉ S) : Bfs B P (S ++ E') E' where
  nd := by
    rw [List.nodup_append]
    refine ⟨h.nd, nd', fun a ha b hb e => ?_⟩
    subst e
    exact ((he a).mp hb).2 ha
  sub := fun x hx => by
    rcases List.mem_append.mp hx with z | z
    · exact h.sub x z
    · obtain ⟨⟨y, w, m, hy⟩, _⟩ := (he x).mp z
      exact ⟨(wf.rp _ m).1, .step m (h.sub y (h.edge y hy)).2⟩
  edge := fun x hx => List.mem_append_right _ hx
  soak := fun x b m l => List.mem_append_left _ (h.soak x b m l)
  back := fun x y w m hy => by
    rcases List.mem_append.mp hy with z | z
    · rcases h.back x y w m z with q | q
      · exact .inl (List.mem_append_left _ q)
      · by_cases hx : x ∈ S
        · exact .inl (List.mem_append_left _ hx)
        · exact .inl (List.mem_append_right _ ((he x).mpr ⟨⟨y, w, m, q⟩, hx⟩))
    · exact .inr z
theorem len_le_of_sub {l m : List Str} (nd : l.Nodup) (h : ∀ x ∈ l, x ∈ m) : l.length ≤ m.length := by
  induction l generalizing m with
  | nil => exact Nat.zero_le _
  | cons x r ih =>
    obtain ⟨n1, n2⟩ := List.nodup_cons.mp nd
    have pm := List.perm_cons_erase (h x List.mem_cons_self)
    have := ih (m := m.erase x) n2 fun y hy => by
      rcases List.mem_cons.mp (pm.mem_iff.mp (h y (List.mem_cons_of_mem _ hy))) with e | e
      · exact absurd (e ▸ hy) n1
      · exact e
    rw [pm.length_eq, List.length_cons, List.length_cons]
    omega
/-! ### who has none, by leaving out -/
def leaves (P : Pi) (L : List Str) : List Str := L.filter fun x => (P.filter fun p => decide (p.1.1 = x)).all fun p => decide (p.1.2 ∈ L)
def leavesN (P : Pi) : Nat → List Str → List Str
  | 0, L => L
  | n + 1, L => leavesN P n (leaves P L)
theorem leaves_len (P : Pi) (L : List Str) : (leaves P L).length ≤ L.length := List.length_filter_le _ _
theorem leaves_fix {P : Pi} {L : List Str} (h : (leaves P L).length = L.length) : leaves P L = L := List.filter_eq_self.mpr (List.length_filter_eq_length_iff.mp h)
theorem leavesN_fix (P : Pi) : ∀ (n : Nat) (L : List Str), leaves P L = L → leavesN P n L = L
  | 0, _, _ => rfl
  | n + 1, L, h => by
    show leavesN P n (leaves P L) = L
    rw [h]; exact leavesN_fix P n L h
theorem leavesN_end (P : Pi) : ∀ (n : Nat) (L : List Str), L.length ≤ n → leaves P (leavesN P n L) = leavesN P n L
  | 0, L, h => by
    have : L = [] := List.length_eq_zero_iff.mp (Nat.le_zero.mp h)
    subst this; rfl
  | n + 1, L, h => by
    show leaves P (leavesN P n (leaves P L)) = leavesN P n (leaves P L)
    by_cases e : (leaves P L).length = L.length
    · have f := leaves_fix e
      rw [f, leavesN_fix P n L f, f]
    · have := leaves_len P L
      exact leavesN_end P n _ (by omega)
theorem leavesN_sub (P : Pi) : ∀ (n : Nat) (L : List Str) (x : Str), x ∈ leavesN P n L → x ∈ L
  | 0, _, _, h => h
  | n + 1, L, x, h => (List.mem_filter.mp (leavesN_sub P n _ x h)).1
theorem leaves_keep {P : Pi} {L : List Str} {x : Str} (hx : x ∈ L) (h : ∀ y w, ((x, y), w) ∈ P → y ∈ L) : x ∈ leaves P L := by
  refine List.mem_filter.mpr ⟨hx, List.all_eq_true.mpr fun p hp => ?_⟩
  obtain ⟨h1, h2⟩ := List.mem_filter.mp hp
  have e : p.1.1 = x := of_decide_eq_true h2
  refine decide_eq_true (h p.1.2 p.2 ?_)
  rw [← e]; exact h1
theorem leavesN_keep (P : Pi) (T : Str → Prop) (ht : ∀ x y w, T x → ((x, y), w) ∈ P → T y) : ∀ (n : Nat) (L : List Str), (∀ x, T x → x ∈ L) → ∀ x, T x → x ∈ leavesN P n L
  | 0, _, h => h
  | n + 1, L, h => leavesN_keep P T ht n _ fun x hx => leaves_keep (h x hx) fun y w m => h y (ht x y w hx m)
theorem fix_closed {B : Br} {P : Pi} {L : List Str} (hl : ∀ x ∈ L, ∀ b, (x, b) ∈ B → ¬ outW P x < b) (hf : leaves P L = L) {x : Str} (o : Opn B P x) : x ∉ L := by
  induction o with
  | soak m l => exact fun hx => hl _ hx _ m l
  | step m _ ih =>
    intro hx
    rw [← hf] at hx
    have := List.all_eq_true.mp (List.mem_filter.mp hx).2 _ (List.mem_filter.mpr ⟨m, decide_eq_true rfl⟩)
    exact ih (of_decide_eq_true this)
/-- what is left in the end: those without a way out -/
theorem leavesN_iff {nm : Str → Prop} {B : Br} {P : Pi} (wf : Wf nm B P) (fit : Fit B P) {L : List Str} (hL : ∀ x, x ∈ L ↔ ∃ b, (x, b) ∈ B ∧ b = outW P x) (nd : L.Nodup) (x : Str) :
    x ∈ leavesN P B.length L ↔ x ∈ nms B ∧ ¬ Opn B P x := by
  have ln : L.length ≤ B.length := by
    have := len_le_of_sub nd (m := nms B) fun x hx => by
      obtain ⟨b, hb, _⟩ := (hL x).mp hx
      exact List.mem_map.mpr ⟨_, hb, rfl⟩
    unfold nms at this
    rw [List.length_map] at this
    exact this
  constructor
  · intro hx
    have h0 := leavesN_sub P _ _ x hx
    obtain ⟨b, hb, _⟩ := (hL x).mp h0
    refine ⟨List.mem_map.mpr ⟨_, hb, rfl⟩, fun o => ?_⟩
    refine fix_closed (L := leavesN P B.length L) (fun y hy b hb lt => ?_) (leavesN_end P _ L ln) o hx
    obtain ⟨c, hc, e⟩ := (hL y).mp (leavesN_sub P _ _ y hy)
    have e1 := getB_of_mem wf.nb hb
    have e2 := getB_of_mem wf.nb hc
    rw [e1] at e2
    have : b = c := Option.some.inj e2
    omega
  · rintro ⟨hx, no⟩
    refine leavesN_keep P (fun y => y ∈ nms B ∧ ¬ Opn B P y) ?_ _ _ ?_ x ⟨hx, no⟩
    · rintro a c w ⟨ha, na⟩ m
      exact ⟨(wf.rp _ m).2.1, fun o => na (.step m o)⟩
    · rintro y ⟨hy, ny⟩
      obtain ⟨p, hp, e⟩ := List.mem_map.mp hy
      have e' : p.1 = y := e
      refine (hL y).mpr ⟨p.2, by rw [← e']; exact hp, ?_⟩
      have := (fit p hp).1
      rw [e'] at this
      by_cases lt : outW P y < p.2
      · exact absurd (.soak (by rw [← e']; exact hp) lt) ny
      · omega
end Nt
end
section
set_option maxHeartbeats 2000000
namespace Rl
open PySem PySem.Spec PyProof.Rows L2
/-! ### a comprehension of any kind: what is made stands at D, what a turn does with it is told by tb -/
def tGc (b0 : Addr → HO) (wi : TI) (g : TG) (tt : TT) (tb : Addr → L2.St → Hp → (Hp → Prop) → Prop) (vs : List Nat) : TE := fun σ H Q =>
  wi σ H fun J H1 => ∀ D, H1 D = none → ∃ W : Nat → Nat → Hp → Prop, (∃ m, W 0 m (upd H1 D (b0 D))) ∧ ∀ i m H, W i m H →
    (J.stop i H ∧ Q (.ref D) H) ∨ (J.go i H ∧ ∃ Nx : Hp → Prop, (∀ H', Nx H' → ∃ m', m' < m ∧ W (i + 1) m' H') ∧
      ∀ x H', J.yld i H x H' → g x (wipe σ vs) H' fun σ2 H2 => wipe σ2 vs = wipe σ vs ∧ tt σ2 H2 fun b H3 => if b = true then tb D σ2 H3 Nx else Nx H3)
/-- what a turn of the loop is to show -/
def TurnAt (P : Program) (w : World) (tg : Expr) (ifs : List Expr) (bd : Addr → Env → Around → (Shared → Prop) → (Value → Shared → Prop) → Shared → Prop)
    (A : Around) (R : Result → Shared → Prop) (it : Value) (D : Addr) (env : Env) (I : Nat → Shared → Prop) (n : Nat) (s : Shared) : Prop :=
  wpAny (model P w) A (pyNext it) (fun r s₁ => match r with
    | none => R (.ok .next) s₁
    | some v => wpAny (model P w) A (letOwnedTupleGo tg it v) (fun _ s₁' => wpAny (model P w) A (assign tg env v) (fun _ s₂ =>
        wpAny (model P w) A (forIn ifs true fun c r => if r = true then do let ok ← isTrue c env (eval c env); pure (ForInStep.yield ok) else pure (ForInStep.yield r))
          (fun ok s₃ => if ok = true then bd D env A (fun s' => ∃ m, m < n ∧ I m s') (notedBy (model P w) A env fun e s' => R (.error e) s') s₃ else ∃ m, m < n ∧ I m s₃)
          (notedBy (model P w) A env fun e s' => R (.error e) s') s₂) (notedBy (model P w) A env fun e s' => R (.error e) s') s₁') (notedBy (model P w) A env fun e s' => R (.error e) s') s₁)
    (notedBy (model P w) A env fun e s' => R (.error e) s') s
/-- a kind of comprehension: its expression, what it makes, its loop -/
structure Kind (P : Program) (w : World) (cx : Expr) (tg iter : Expr) (ifs : List Expr) (mk : Sem Value) (o0 : Obj) (bd : Addr → Env → Around → (Shared → Prop) → (Value → Shared → Prop) → Shared → Prop) : Prop where
  cl : clausesOf cx = [⟨tg, iter, ifs, 0⟩]
  new : ∀ {A : Around} {E : Value → Shared → Prop} {Q : Value → Shared → Prop} {s : Shared}, Q (.ref s.heap.objs.size) { s with heap := s.heap.push o0 } → wpAny (model P w) A mk Q E s
  weak : ∀ {D : Addr} {env : Env} {A : Around} {p p' : Shared → Prop} {e' : Value → Shared → Prop} {s : Shared}, (∀ s', p s' → p' s') → bd D env A p (fun _ _ => False) s → bd D env A p' e' s
  loop : ∀ {A : Around} {R : Result → Shared → Prop} {it : Value} {D : Addr} {env : Env} {s : Shared} (I : Nat → Shared → Prop), (∀ n s, I n s → TurnAt P w tg ifs bd A R it D env I n s) → ∀ n, I n s →
    codeAny (model P w) A (.compLoop cx 0 it (.ref D) env) R s
  start : ∀ {A : Around} {R : Result → Shared → Prop} {it acc : Value} {env : Env} {s : Shared}, codeAny (model P w) A (.compLoop cx 0 it acc env) R s →
    wpAny (model P w) A (pyIter it) (fun it' s' => codeAny (model P w) A (.compLoop cx 0 it' acc env) R s') (notedBy (model P w) A env fun x s' => R (.error x) s') s →
    codeAny (model P w) A (.compStart cx 0 it acc env) R s
section
variable {X : Cx}
theorem gc_core {pins : List (Addr × Obj)} {s : Shared} {σ : L2.St} {H : Hp} {Q : VK} {cx tg iter : Expr} {ifs : List Expr} {mk : Sem Value} {o0 : Obj} {bd : Addr → Env → Around → (Shared → Prop) → (Value → Shared → Prop) → Shared → Prop}
    {scope : Scope} {own : List (Str × Nat)} {pos' : Pos} {wi : TI} {g : TG} {tt : TT} {b0 : Addr → HO} {tb : Addr → L2.St → Hp → (Hp → Prop) → Prop} {use : Option (Value → Sem Unit)} {Qf : Value → Shared → Prop}
    (KD : Kind X.prog X.w cx tg iter ifs mk o0 bd)
    (hb0 : ∀ {pins : List (Addr × Obj)} {σ : L2.St} {H : Hp} {s : Shared}, Inv X pins σ H s → ObjOk X.prog X.w (upd H s.heap.objs.size (b0 s.heap.objs.size)) (s.heap.push o0) s.heap.objs.size (b0 s.heap.objs.size))
    (hc : X.calm = true) (hN : X.N.Nodup) (I : Inv X pins σ H s) (hi : PI X tg iter wi) (ok : BlkOk X.N X.env.scope scope own)
    (hg : ∀ (s : Shared) (H : Hp) (C : Addr) (cl : List (Str × Addr)) (fp : List Addr), PG (X.blk s H scope (compEnvC scope cl C X.env) fp) tg g)
    (ht : ∀ (s : Shared) (H : Hp) (C : Addr) (cl : List (Str × Addr)) (fp : List Addr), PTs (X.blk s H scope (compEnvC scope cl C X.env) fp) ifs tt)
    (hb : ∀ (s : Shared) (H : Hp) (C : Addr) (cl : List (Str × Addr)) (fp : List Addr) (pins : List (Addr × Obj)) (σ : L2.St) (H' : Hp) (s' : Shared) (D : Addr) (Nx : Hp → Prop),
      Inv (X.blk s H scope (compEnvC scope cl C X.env) fp) pins σ H' s' → tb D σ H' Nx → bd D (compEnvC scope cl C X.env) X.A (fun s'' => ∃ H'', Inv (X.blk s H scope (compEnvC scope cl C X.env) fp) pins σ H'' s'' ∧ Nx H'') (fun _ _ => False) s')
    (hs : ∀ x, foldedSetIterable iter X.env x = pure x)
    (h : tGc b0 wi g tt tb (own.map (·.2)) σ H Q)
    (hRR : ∀ D C s' m H', Inv X pins σ H' s' → Q (.ref D) H' → s'.heap.Ns C m → FpOk X pins H' C → compPost (model X.prog X.w) X.A X.xe use Qf (.ref D) C (.ok .next) s') :
    wpAny (model X.prog X.w) X.A (comprehension cx scope X.env pos' mk false (eval iter X.env) use) Qf X.xe s := by
  have free : ∀ y ∈ scope.names, y.2 = .free → ∃ c, X.env.cells.lookup y.1 = some c := by
    intro y hy e
    exact (ok.free y hy e).elim (fun k => I.ok.has _ (.inl k)) (fun k => I.ok.has _ (.inr k))
  refine wpAny_comprehension_free (use := use) KD.cl hs (closure_ok free) ok.kind
    (by intro y hy e; rw [ok.uniq y hy, e]) (thn (hi.run pins s σ H _ I h) (fun xv s1 hx => thn hx (fun itv s2 h2 => ?_)))
  obtain ⟨it, fp, tn, J, H2, rfl, I2, T, st2, f2, q⟩ := h2
  refine KD.new (newEnv_comp ?_)
  obtain ⟨D, hD⟩ : ∃ D, s2.heap.objs.size = D := ⟨_, rfl⟩
  have nD : H2 D = none := I2.hok.fresh (Nat.le_of_eq hD)
  obtain ⟨W, ⟨m0, w0⟩, turn⟩ := q D nD
  rw [hD]
  obtain ⟨s3, hs3⟩ : ∃ s3 : Shared, s3 = { s2 with heap := s2.heap.push o0 } := ⟨_, rfl⟩
  rw [← hs3]
  have h3 : s3.heap = s2.heap.push o0 := by rw [hs3]
  obtain ⟨H3, hH3⟩ : ∃ H3, H3 = upd H2 D (b0 D) := ⟨_, rfl⟩
  rw [← hH3] at w0
  have I3 : Inv X pins σ H3 s3 := by
    have z := I2.laid (t' := s2.toks) (h' := s2.heap.push o0) (fun b o e => Heap.get?_push_of_some _ e) (Nat.le_refl _) (hb0 I2)
    rw [hs3, hH3, ← hD]
    exact z
  have old : ∀ b ∈ fp, b < s2.heap.objs.size := by
    intro b hb
    obtain ⟨o, e, _⟩ := T.obj _ _ st2 b hb
    exact Heap.lt_size e
  have f3 : ∀ b ∈ fp, FpOk X pins H3 b ∧ b < s3.heap.objs.size := by
    intro b hb
    have lt := old b hb
    refine ⟨⟨?_, (f2 b hb).2⟩, ?_⟩
    · rw [hH3, upd_ne (show b ≠ D from by rw [← hD]; exact Nat.ne_of_lt lt)]
      exact (f2 b hb).1
    · rw [h3, Heap.size_push]; exact Nat.lt_succ_of_lt lt
  have st3 : tn 0 s3.heap := T.keep _ _ _ st2 (by intro b _ o e; rw [h3]; exact Heap.get?_push_of_some _ e)
  have I4 := block_start I3 ok hN f3
  have pg := hg s3 H3 s3.heap.objs.size (cellsFrom (s3.heap.objs.size + 1) scope.names (cloFrom X.env.cells scope.names [])) fp
  have pt := ht s3 H3 s3.heap.objs.size (cellsFrom (s3.heap.objs.size + 1) scope.names (cloFrom X.env.cells scope.names [])) fp
  have pb := hb s3 H3 s3.heap.objs.size (cellsFrom (s3.heap.objs.size + 1) scope.names (cloFrom X.env.cells scope.names [])) fp
  show codeAny _ _ (.compStart cx 0 (.ref it) (.ref D) (compEnvC scope (cellsFrom (s3.heap.objs.size + 1) scope.names (cloFrom X.env.cells scope.names [])) s3.heap.objs.size X.env))
    (compPost (model X.prog X.w) X.A X.xe use Qf (.ref D) s3.heap.objs.size) { s3 with heap := pushCells (s3.heap.push { cls := .type "dict", data := .dict #[] }) scope.names }
  have nfp : ∀ b ∈ fp, H3 b = none := fun b hb => (f3 b hb).1.1
  obtain ⟨ce, hce⟩ : ∃ ce, ce = compEnvC scope (cellsFrom (s3.heap.objs.size + 1) scope.names (cloFrom X.env.cells scope.names [])) s3.heap.objs.size X.env := ⟨_, rfl⟩
  rw [← hce] at I4 pg pt pb ⊢
  have cL : ce.locals = s3.heap.objs.size := by rw [hce]; rfl
  obtain ⟨s4, hs4⟩ : ∃ s4 : Shared, s4 = { s3 with heap := pushCells (s3.heap.push { cls := .type "dict", data := .dict #[] }) scope.names } := ⟨_, rfl⟩
  rw [← hs4] at I4 ⊢
  have st4 : tn 0 s4.heap := T.keep _ _ _ st3 (by intro b _ o e; rw [hs4]; exact pushCells_keeps _ _ _ _ (Heap.get?_push_of_some _ e))
  have stat : ∀ {σ' : L2.St} {H' : Hp} {s' : Shared}, Inv (X.blk s3 H3 scope ce fp) [] σ' H' s' → (∀ b ∈ fp, H' b = none) → ∀ b ∈ fp, FpOk (X.blk s3 H3 scope ce fp) [] H' b := by
    intro σ' H' s' J' hn b hb
    refine ⟨hn b hb, (J'.ok.exf b hb).1, J'.ok.exfs b hb, .inl hb, fun x c e => (J'.ok.exf b hb).2 x c e, fun p hp => ?_⟩
    exact (List.not_mem_nil (show p ∈ ([] : List (Addr × Obj)) from hp)).elim
  have loop : codeAny (model X.prog X.w) X.A (.compLoop cx 0 (.ref it) (.ref D) ce) (compPost (model X.prog X.w) X.A X.xe use Qf (.ref D) s3.heap.objs.size) s4 := by
    refine KD.loop (fun n s' => ∃ i H', Inv (X.blk s3 H3 scope ce fp) [] (wipe σ (own.map (·.2))) H' s' ∧ tn i s'.heap ∧ (∀ b ∈ fp, H' b = none) ∧ W i n H') ?_ m0 ⟨0, H3, I4, st4, nfp, w0⟩
    rintro n s5 ⟨i, H5, I5, st5, n5, w5⟩
    rcases turn i n H5 w5 with ⟨stop, qq⟩ | ⟨go, Nx, hNx, step⟩
    · refine thnF (T.done (X.blk s3 H3 scope ce fp) rfl rfl rfl hc i [] s5 _ H5 (fun _ _ => False) I5 (stat I5 n5) st5 stop) ?_
      rintro r s6 ⟨rfl, I6⟩
      have I7 : Inv X pins σ H5 s6 := I3.call' (ch := fp) I6.os I6.base I6.hok I6.bare (by
        intro b hb
        have z := (f3 b hb).1
        exact ⟨z.2.2.2.1, z.2.1, z.2.2.2.2.1, z.2.2.2.2.2⟩)
      have nC : H5 s3.heap.objs.size = none := by
        rw [← cL]; exact I6.free
      obtain ⟨m, hn, _⟩ := I6.loc
      have hn' : s6.heap.Ns s3.heap.objs.size m := by
        rw [← cL]; exact hn
      exact hRR D s3.heap.objs.size s6 m H5 I7 qq hn' (I3.fpOk (Nat.le_refl _) nC)
    · refine thnF (T.item (X.blk s3 H3 scope ce fp) rfl rfl rfl hc i [] s5 _ H5 (fun _ _ => False) I5 (stat I5 n5) st5 go) ?_
      rintro r s6 ⟨u, rfl, h6⟩
      refine thnF h6 ?_
      rintro _ s7 ⟨x, H7, I7, r7, y7, st7, n7⟩
      have I7' := I7.pinned (stat I7 n7) (T.obj _ _ st7)
      refine thnF (pg.run _ s7 _ H7 x u _ I7' r7 (step x H7 y7)) ?_
      rintro _ s8 ⟨σ8, H8, I8, hw8, q8⟩
      refine thnF (pt.run _ s8 σ8 H8 _ I8 q8) ?_
      rintro b s9 ⟨H9, I9, q9⟩
      have fin : ∀ {s' : Shared} {H' : Hp}, Inv (X.blk s3 H3 scope ce fp) ([] ++ pinsAt fp s7.heap) σ8 H' s' → Nx H' →
          ∃ m, m < n ∧ ∃ i H', Inv (X.blk s3 H3 scope ce fp) [] (wipe σ (own.map (·.2))) H' s' ∧ tn i s'.heap ∧ (∀ b ∈ fp, H' b = none) ∧ W i m H' := by
        intro s' H' I' nx
        obtain ⟨m', hm, w'⟩ := hNx H' nx
        have kept : ∀ b ∈ fp, ∀ o, s7.heap.get? b = some o → s'.heap.get? b = some o ∧ H' b = none := by
          intro b hb o e
          have z := I'.pin (b, o) (List.mem_append_right _ (List.mem_append_right _ (mem_pinsAt hb e)))
          exact ⟨z.1, z.2.1⟩
        refine ⟨m', hm, i + 1, H', (I'.unpinned (pins := [])).weak (by rw [← hw8, wipe_length]) (fun j v e => ?_), T.keep _ _ _ st7 (fun b hb o e => (kept b hb o e).1), fun b hb => ?_, w'⟩
        · rw [← hw8] at e; exact (wipe_some e).1
        · obtain ⟨o, e, _⟩ := T.obj _ _ st7 b hb
          exact (kept b hb o e).2
      cases b with
      | false =>
        rw [if_neg Bool.false_ne_true] at q9
        exact iteF (fin I9 q9)
      | true =>
        rw [if_pos rfl] at q9
        refine iteT (KD.weak ?_ (pb _ σ8 H9 s9 D Nx I9 q9))
        rintro s' ⟨H', I', nx⟩
        exact fin I' nx
  exact KD.start loop (T.self X.A 0 _ _ _ st4 loop)
end
end Rl
end
section
set_option maxHeartbeats 2000000
namespace Rl
open PySem PySem.Spec PyProof.Rows L2
/-! ### over a walk -/
theorem gc_it {J : It} {n : Nat} {G : Hp → Prop} {Y : Nat → Hp → V → Hp → Prop} (w : Walk J n G Y) {b0 : Addr → HO} {g : TG} {tt : TT} {tb : Addr → L2.St → Hp → (Hp → Prop) → Prop} {vs : List Nat} {σ : L2.St} {H1 : Hp} {D : Addr} {Qd : Hp → Prop} (Pv : Nat → Hp → Prop)
    (h0 : Pv 0 (upd H1 D (b0 D))) (hG : ∀ i H, i ≤ n → Pv i H → G H)
    (hs : ∀ i x H H', i < n → Pv i H → Y i H x H' → g x (wipe σ vs) H' fun σ2 H2 => wipe σ2 vs = wipe σ vs ∧ tt σ2 H2 fun b H3 => if b = true then tb D σ2 H3 (Pv (i + 1)) else Pv (i + 1) H3)
    (hd : ∀ H, Pv n H → Qd H) :
    ∃ W : Nat → Nat → Hp → Prop, (∃ m, W 0 m (upd H1 D (b0 D))) ∧ ∀ i m H, W i m H →
      (J.stop i H ∧ Qd H) ∨ (J.go i H ∧ ∃ Nx : Hp → Prop, (∀ H', Nx H' → ∃ m', m' < m ∧ W (i + 1) m' H') ∧
        ∀ x H', J.yld i H x H' → g x (wipe σ vs) H' fun σ2 H2 => wipe σ2 vs = wipe σ vs ∧ tt σ2 H2 fun b H3 => if b = true then tb D σ2 H3 Nx else Nx H3) := by
  refine ⟨fun i m H => m + i = n ∧ Pv i H, ⟨n, rfl, h0⟩, ?_⟩
  rintro i m H ⟨e, p⟩
  have q := hG i H (by omega) p
  rcases Nat.lt_or_ge i n with lt | ge
  · refine .inr ⟨w.goes i H lt q, Pv (i + 1), fun H' p' => ⟨m - 1, by omega, by omega, p'⟩, fun x H' y => hs i x H H' lt p (w.yields i H x H' lt q y)⟩
  · have ei : i = n := by omega
    subst ei
    exact .inl ⟨w.stops H q, hd H p⟩
/-! ### {k: v for ..} -/
def bdD (P : Program) (w : World) (kx vx : Expr) (D : Addr) (env : Env) (A : Around) (p : Shared → Prop) (e : Value → Shared → Prop) (s : Shared) : Prop :=
  wpAny (model P w) A (eval kx env) (fun kv s4 => wpAny (model P w) A (eval vx env) (fun vv s5 => wpAny (model P w) A (dictSet D kv vv) (fun _ s6 => p s6) e s5) e s4) e s
theorem kindD (P : Program) (w : World) (kx vx tg iter : Expr) (ifs : List Expr) (scope : Scope) (pos : Pos) :
    Kind P w (.DictComp kx vx [⟨tg, iter, ifs, 0⟩] scope pos) tg iter ifs newDict { cls := .type "dict", data := .dict #[] } (bdD P w kx vx) where
  cl := rfl
  new := fun h => wpAny_newObj_type h
  weak := fun hp h => wpAny_mono h (fun _ _ h1 => wpAny_mono h1 (fun _ _ h2 => wpAny_mono h2 (fun _ _ h3 => hp _ h3) fun _ _ z => z.elim) fun _ _ z => z.elim) fun _ _ z => z.elim
  loop := fun I turn n h => compLoop_anyD I turn n h
  start := fun h0 h => codeAny_compStart_dict h0 h
section
variable {X : Cx}
/-- d[y] = v where the comprehension does it -/
theorem dset_ok {pins : List (Addr × Obj)} {σ : L2.St} {H H' : Hp} {s : Shared} {E : Value → Shared → Prop} {D : Addr} {y v : V} {u r : Value} {Q : Unit → Shared → Prop} (hu : X.A.units < cLine) (I : Inv X pins σ H s) (g : DPut H D y v H') (ry : RelV y u) (rv : RelV v r)
    (h : ∀ s', Inv X pins σ H' s' → Q () s') : wpAny (model X.prog X.w) X.A (dictSet D u r) Q E s := by
  rcases g with ⟨kvs, k, e, rfl, l, rfl⟩ | ⟨kvs, k, b, e, rfl, eb, l, rfl⟩
  · exact d_dictSet I e l ry rv h
  · cases (show u = Value.ref b from ry)
    obtain ⟨z, hd, xs, rel, dd⟩ := dt_of I.hok e
    have l1 : xs.length ≤ sizeLine := by rw [← Paired.length rel]; exact z
    have l2 : (putK kvs k v).length ≤ sizeLine := by have := length_putK kvs k v; omega
    refine wpAny_dictSet_heap (hsz := l1) (show (tupleKind (mixKind X.prog X.w)).room X.A from hu) (key_of I.hok eb) dd (fun h' dd' sb => h _ ?_)
    obtain ⟨q, es, ep, hq, h2, h3, h4, _, h5⟩ := dd'
    refine d_write I (by rw [e]; trivial) sb ⟨q, hq⟩ ⟨l2, hd, _, (rel.put k eb rv).keeps (fun c ys ec => ?_), q, es, ep, hq, h2, h3, h4, h5⟩
    rw [upd_ne (ne_of ec e (fun z => nomatch z))]; exact ec
def tbD (tk tv : TE) : Addr → L2.St → Hp → (Hp → Prop) → Prop := fun D σ H Nx => tk σ H fun y H4 => tv σ H4 fun z H5 => ∃ H6, DPut H5 D y z H6 ∧ Nx H6
theorem eval_dc (kx vx : Expr) (gens : List Comprehension) (scope : Scope) (pos : Pos) (env : Env) : eval (.DictComp kx vx gens scope pos) env =
    comprehension (.DictComp kx vx gens scope pos) scope env (firstIterPos gens pos) newDict (firstAsync gens) (firstIter gens env) := rfl
/-- {k: v for ..}, keys tuples (T := .dT []) or ints and texts (T := .dK []) -/
theorem pe_dcP {T : HO} {kx vx tg iter : Expr} {ifs : List Expr} {scope : Scope} {own : List (Str × Nat)} {pos : Pos} {wi : TI} {g : TG} {tt : TT} {tk tv : TE} {j : Nat} (hT : T = .dT [] ∨ T = .dK []) (hr : Room j X.A) (hc : X.calm = true) (hN : X.N.Nodup) (hi : PI X tg iter wi) (ok : BlkOk X.N X.env.scope scope own)
    (hg : ∀ (s : Shared) (H : Hp) (C : Addr) (cl : List (Str × Addr)) (fp : List Addr), PG (X.blk s H scope (compEnvC scope cl C X.env) fp) tg g)
    (ht : ∀ (s : Shared) (H : Hp) (C : Addr) (cl : List (Str × Addr)) (fp : List Addr), PTs (X.blk s H scope (compEnvC scope cl C X.env) fp) ifs tt)
    (hk : ∀ (s : Shared) (H : Hp) (C : Addr) (cl : List (Str × Addr)) (fp : List Addr), PE (X.blk s H scope (compEnvC scope cl C X.env) fp) kx tk)
    (he : ∀ (s : Shared) (H : Hp) (C : Addr) (cl : List (Str × Addr)) (fp : List Addr), PE (X.blk s H scope (compEnvC scope cl C X.env) fp) vx tv) (hs : ∀ x, foldedSetIterable iter X.env x = pure x := by intro _; rfl) :
    PE X (.DictComp kx vx [⟨tg, iter, ifs, 0⟩] scope pos) (tGc (fun _ => T) wi g tt (tbD tk tv) (own.map (·.2))) := by
  refine ⟨fun pins s σ H Q I h => ?_⟩
  rw [eval_dc]
  refine gc_core (kindD X.prog X.w kx vx tg iter ifs scope pos) (fun {_ _ _ s1} I1 => ?_) hc hN I hi ok hg ht ?_ hs h (fun D C s' m H' I' q hn f => ⟨m, hn, fun h'' sb => ?_⟩)
  · rcases hT with rfl | rfl
    · exact dt_empty s1.heap I1.big
    · exact dk_empty s1.heap I1.big
  · intro s1 H1 C cl fp pins' σ' H' s' D Nx I' q
    refine thnF ((hk s1 H1 C cl fp).run _ s' σ' H' _ I' q) ?_
    rintro kv s2 ⟨y, H2, I2, r2, q2⟩
    refine thnF ((he s1 H1 C cl fp).run _ s2 σ' H2 _ I2 q2) ?_
    rintro vv s3 ⟨z, H3, I3, r3, H4, put, nx⟩
    exact dset_ok (X := X.blk s1 H1 scope (compEnvC scope cl C X.env) fp) hr.units0 I3 put r2 r3 (fun s4 I4 => ⟨H4, I4, nx⟩)
  · obtain ⟨f0, f1, f2, f3, f4, f5⟩ := f
    exact ⟨.ref D, H', I'.turned (t' := s'.toks) (fun b o hb e => (sb.2 b hb).trans e) f0 f1 f3 f4 f5, rfl, q⟩
end
end Rl
end
section
set_option maxHeartbeats 2000000
namespace Rl
open PySem PySem.Spec PyProof.Rows L2 PySem.Froz
/-! ### sets of texts that can be walked -/
def SetTx (P : Program) (w : World) (h : Heap) (a : Addr) (l : List Str) : Prop :=
  ∃ D : SD, h.get? a = some (sObj "set" D) ∧ TxOk P w D l ∧ l.Nodup ∧ l.length < scanBound ∧ Ris D.2.2.place.toList ∧ (w.params.followText "set-order" = true ∨ D.2.2.led = true)
def SetX (P : Program) (w : World) (a : Addr) (l : List Str) : HO := .ext fun h => SetTx P w h a l
theorem SetTx.at {P : Program} {w : World} {h h' : Heap} {a : Addr} {l : List Str} (R : SetTx P w h a l) (k : ∀ o, h.get? a = some o → h'.get? a = some o) : SetTx P w h' a l := by
  obtain ⟨D, ho, r⟩ := R
  exact ⟨D, k _ ho, r⟩
theorem setX_new {P : Program} {w : World} {H : Hp} {h : Heap} {a : Addr} {l : List Str} (R : SetTx P w h a l) : ObjOk P w H h a (SetX P w a l) :=
  ⟨R, ⟨_, R.choose_spec.1⟩, fun h1 h2 p k => SetTx.at p k⟩
theorem tail_led (ep : Nat) (es1 : Array (Int × Value)) (t2 : SetTable) (b : Bool) : (tailTx ep es1 t2 b).2.2.led = t2.led := by
  unfold tailTx
  by_cases c : (!b && t2.tooFull) = true
  · rw [if_pos c]; exact relayAll_led _ _ _
  · rw [if_neg c]
theorem tail_ris (ep : Nat) (es1 : Array (Int × Value)) (t2 : SetTable) (b : Bool) (r : Ris t2.place.toList) : Ris (tailTx ep es1 t2 b).2.2.place.toList := by
  unfold tailTx
  by_cases c : (!b && t2.tooFull) = true
  · rw [if_pos c]; exact relayAll_ris _ _ _
  · rw [if_neg c]; exact r
theorem addTx_led (h : Int) (v : Value) (D : SD) : (addTx h v D).2.2.led = D.2.2.led := by
  have e1 : ∀ t2 : SetTable, (if t2.plain = true then { t2 with plain := false } else t2).led = t2.led := fun t2 => by split <;> rfl
  unfold addTx
  rw [tail_led, e1, layNew_led]
theorem addTx_ris (h : Int) (v : Value) (D : SD) (r : Ris D.2.2.place.toList) : Ris (addTx h v D).2.2.place.toList := by
  have e1 : ∀ t2 : SetTable, (if t2.plain = true then { t2 with plain := false } else t2).place = t2.place := fun t2 => by split <;> rfl
  unfold addTx
  refine tail_ris _ _ _ _ ?_
  rw [e1]
  exact layNew_ris _ _ h v r
section
variable {P : Program} {w : World} {A : Around} {E : Value → Shared → Prop} {s : Shared}
/-- it is there already -/
theorem has_add {a : Addr} {D : SD} {l : List Str} {k : Str} {u : Tok} {Q : Bool → Shared → Prop} (ho : s.heap.get? a = some (sObj "set" D)) (F : TxOk P w D l) (hk : k ∈ l) (hb : l.length < scanBound)
    (h : Q false s) : wpAny (model P w) A (setAddHashed a (.str k u) (hashStr w k)) Q E s := by
  obtain ⟨es, ep, t⟩ := D
  have e1 : es.size = l.length := F.sz
  have e2 : ElemsOf (strKind P w) es.toList := F.el
  have e3 : t.fits es.size = true := F.fit
  obtain ⟨x, hx, px⟩ := (F.mem k).mp hk
  unfold setAddHashed setAddHashedIn
  refine wpAny_holding (wpAny_bind (wpAny_setState_of ho rfl e3 ?_))
  dsimp only
  rw [byScan_of rfl (by omega) e2]
  simp only [↓reduceIte]
  unfold setAddByScan
  refine wpAny_bind (wpAny_bind (wpAny_rule (wpAny_bind (wpAny_setScan_of (knd := strKind P w) (k := k) (is_str k u) ho rfl e3 e2 ?_))))
  cases hf : List.findIdx? (fun e => (strKind P w).is k e.2) es.toList with
  | some j => exact wpAny_pure (wpAny_pure h)
  | none =>
    have c := List.findIdx?_eq_none_iff.mp hf x hx
    rw [px] at c
    cases c
/-- found.add(k) -/
theorem setTx_add {a : Addr} {l : List Str} {k : Str} {u : Tok} {Q : Value → Shared → Prop} (R : SetTx P w s.heap a l) (room : l.length + 1 < scanBound)
    (hQ : ∀ h', Heap.SameBut a s.heap h' → SetTx P w h' a (if k ∈ l then l else k :: l) → Q .none { s with heap := h', toks := s.toks + 1 }) :
    wpAny (model P w) A (call (.builtin "set.add") [.ref a, .str k u]) Q E s := by
  obtain ⟨D, ho, F, nd, hb, r, hl⟩ := R
  refine wpAny_call_entry PySem.F.slot_set_add ⟨_, ho, rfl⟩ PySem.F.entry_set_add ?_ (PySem.F.args_set_add_2 _ _)
  unfold Builtin.«set.add» Builtin.Frozenset.oneOther
  simp only [List.isEmpty_nil, bind_assoc]
  unfold Builtin.Frozenset.addrOf setAdd
  refine wpAny_bind (wpAny_pure ?_)
  try dsimp only
  refine wpAny_bind (wpAny_pure ?_)
  try dsimp only
  refine wpAny_bind (wpAny_holding (wpAny_bind ((strKind P w).pyHash (is_str k u) ?_)))
  by_cases hk : k ∈ l
  · refine has_add (s := { s with toks := s.toks + 1 }) ho F hk hb ?_
    show wpAny _ _ (ret Value.none) _ _ _
    refine wpAny_pure ⟨_, rfl, hQ s.heap (Heap.SameBut.refl a s.heap) ?_⟩
    rw [if_pos hk]
    exact ⟨D, ho, F, nd, hb, r, hl⟩
  · refine add_x (s := { s with toks := s.toks + 1 }) ho F hk room ?_
    show wpAny _ _ (ret Value.none) _ _ _
    refine wpAny_pure ⟨_, rfl, hQ _ (Heap.SameBut.update s.heap a _) ?_⟩
    rw [if_neg hk]
    exact ⟨_, get_upd _ ho rfl, add_ok u F, List.nodup_cons.mpr ⟨hk, nd⟩, room, addTx_ris _ _ _ r, by rw [addTx_led]; exact hl⟩
end
end Rl
end
section
set_option maxHeartbeats 2000000
namespace Rl
open PySem PySem.Spec PyProof.Rows L2 PySem.Froz
/-! ### {text for ..} -/
def bdS (P : Program) (w : World) (elt : Expr) (D : Addr) (env : Env) (A : Around) (p : Shared → Prop) (e : Value → Shared → Prop) (s : Shared) : Prop :=
  wpAny (model P w) A (eval elt env) (fun x s4 => wpAny (model P w) A (call (.builtin "set.add") [.ref D, x]) (fun _ s5 => p s5) e s4) e s
def set0 (w : World) : Obj := { cls := .type "set", dict := none, data := .set #[] 0 (.fresh 0 0 (!w.params.followText "set-order")) }
theorem kindS (P : Program) (w : World) (elt tg iter : Expr) (ifs : List Expr) (scope : Scope) (pos : Pos) :
    Kind P w (.SetComp elt [⟨tg, iter, ifs, 0⟩] scope pos) tg iter ifs (newSet (.type "set")) (set0 w) (bdS P w elt) where
  cl := rfl
  new := fun h => PpSet.newSet_ok h
  weak := fun hp h => wpAny_mono h (fun _ _ h1 => wpAny_mono h1 (fun _ _ h2 => hp _ h2) fun _ _ z => z.elim) fun _ _ z => z.elim
  loop := fun I turn n h => PpSet.compLoopS_any I turn n h
  start := fun h0 h => PpSet.codeAny_compStart_set h0 h
theorem setTx_fresh (P : Program) (w : World) (h : Heap) : SetTx P w (h.push (set0 w)) h.objs.size [] := by
  refine ⟨(#[], 0, .fresh 0 0 (!w.params.followText "set-order")), Heap.get?_push_size _ rfl, TxOk.nil (by rfl), List.nodup_nil, by decide, List.Pairwise.nil, ?_⟩
  show _ ∨ (!w.params.followText "set-order") = true
  cases w.params.followText "set-order"
  · exact .inr rfl
  · exact .inl rfl
section
variable {X : Cx}
def tbS (P : Program) (w : World) (te : TE) : Addr → L2.St → Hp → (Hp → Prop) → Prop := fun D σ H Nx => te σ H fun y H4 => ∃ (k : Str) (l : List Str),
  y = .str k ∧ H4 D = some (SetX P w D l) ∧ l.length + 1 < scanBound ∧ Nx (upd H4 D (SetX P w D (if k ∈ l then l else k :: l)))
theorem setX_add {pins : List (Addr × Obj)} {σ : L2.St} {H : Hp} {s : Shared} {E : Value → Shared → Prop} {D : Addr} {l : List Str} {k : Str} {u : Value} {Q : Value → Shared → Prop} (I : Inv X pins σ H s) (hD : H D = some (SetX X.prog X.w D l)) (room : l.length + 1 < scanBound) (ru : RelV (.str k) u)
    (h : ∀ s', Inv X pins σ (upd H D (SetX X.prog X.w D (if k ∈ l then l else k :: l))) s' → Q .none s') : wpAny (model X.prog X.w) X.A (call (.builtin "set.add") [.ref D, u]) Q E s := by
  obtain ⟨t, rfl⟩ := (show ∃ t, u = Value.str k t from ru)
  refine setTx_add (show SetTx X.prog X.w s.heap D l from (I.hok D _ hD).1) room (fun h' sb new => h _ ?_)
  exact I.write (e := D) (t' := s.toks + 1) (by rw [hD]; trivial) (.inl rfl) (fun b u hb hu => (sb.2 b hb).trans hu) ⟨_, new.choose_spec.1⟩ (setX_new new)
theorem pe_scX {elt tg iter : Expr} {ifs : List Expr} {scope : Scope} {own : List (Str × Nat)} {pos : Pos} {wi : TI} {g : TG} {tt : TT} {te : TE} (hc : X.calm = true) (hN : X.N.Nodup) (hi : PI X tg iter wi) (ok : BlkOk X.N X.env.scope scope own)
    (hg : ∀ (s : Shared) (H : Hp) (C : Addr) (cl : List (Str × Addr)) (fp : List Addr), PG (X.blk s H scope (compEnvC scope cl C X.env) fp) tg g)
    (ht : ∀ (s : Shared) (H : Hp) (C : Addr) (cl : List (Str × Addr)) (fp : List Addr), PTs (X.blk s H scope (compEnvC scope cl C X.env) fp) ifs tt)
    (he : ∀ (s : Shared) (H : Hp) (C : Addr) (cl : List (Str × Addr)) (fp : List Addr), PE (X.blk s H scope (compEnvC scope cl C X.env) fp) elt te) (hs : ∀ x, foldedSetIterable iter X.env x = pure x := by intro _; rfl) :
    PE X (.SetComp elt [⟨tg, iter, ifs, 0⟩] scope pos) (tGc (fun D => SetX X.prog X.w D []) wi g tt (tbS X.prog X.w te) (own.map (·.2))) := by
  refine ⟨fun pins s σ H Q I h => ?_⟩
  rw [PpSet.eval_SetComp]
  refine gc_core (kindS X.prog X.w elt tg iter ifs scope pos) (fun {_ _ _ s1} I1 => setX_new (setTx_fresh _ _ s1.heap)) hc hN I hi ok hg ht ?_ hs h (fun D C s' m H' I' q hn f => ⟨m, hn, fun h'' sb => ?_⟩)
  · intro s1 H1 C cl fp pins' σ' H' s' D Nx I' q
    refine thnF ((he s1 H1 C cl fp).run _ s' σ' H' _ I' q) ?_
    rintro x s2 ⟨y, H2, I2, r2, k, l, rfl, hD, room, nx⟩
    exact setX_add (X := X.blk s1 H1 scope (compEnvC scope cl C X.env) fp) I2 hD room r2 (fun s4 I4 => ⟨_, I4, nx⟩)
  · obtain ⟨f0, f1, f2, f3, f4, f5⟩ := f
    exact ⟨.ref D, H', I'.turned (t' := s'.toks) (fun b o hb e => (sb.2 b hb).trans e) f0 f1 f3 f4 f5, rfl, q⟩
end
/-! ### sorted of it -/
theorem perm_of_nodup : ∀ {l m : List Str}, l.Nodup → (∀ x ∈ l, x ∈ m) → m.length ≤ l.length → m.Perm l
  | [], m, _, _, h => by
    have : m = [] := List.length_eq_zero_iff.mp (Nat.le_zero.mp h)
    rw [this]
  | x :: r, m, nd, hs, hl => by
    obtain ⟨n1, n2⟩ := List.nodup_cons.mp nd
    have hx := hs x List.mem_cons_self
    have pm := List.perm_cons_erase hx
    have ln : m.length = (m.erase x).length + 1 := by rw [pm.length_eq, List.length_cons]
    refine pm.trans (List.Perm.cons x (perm_of_nodup n2 (fun y hy => ?_) (by rw [List.length_cons] at hl; omega)))
    have hy' := hs y (List.mem_cons_of_mem _ hy)
    have ne : y ≠ x := fun e => n1 (e ▸ hy)
    rcases List.mem_cons.mp (pm.mem_iff.mp hy') with e | e
    · exact absurd e ne
    · exact e
def txOf : Value → Str
  | .str k _ => k
  | _ => Str.empty
theorem strs_of : ∀ {l : List Value}, (∀ v ∈ l, ∃ k t, v = Value.str k t) → StrsAre l (l.map txOf)
  | [], _ => .nil
  | v :: l, h => by
    obtain ⟨k, t, rfl⟩ := h v List.mem_cons_self
    exact .cons k t (strs_of fun u hu => h u (List.mem_cons_of_mem _ hu))
section
variable {X : Cx}
def rSortX (P : Program) (w : World) : List V → Hp → VK → Prop := fun vs H Q => ∃ (a : Addr) (l : List Str), vs = [.ref a] ∧ H a = some (SetX P w a l) ∧ l.length < 64 ∧
  ∀ (ys : List Str) (p : Addr), ys.Perm l → sortedS ys = true → H p = none → Q (.ref p) (upd H p (.lst (ys.map V.str)))
theorem call_sortX (hc : X.calm = true) : CallR X (.builtin "sorted") (rSortX X.prog X.w) := by
  intro pins s σ H xs us Q I r q
  obtain ⟨a, l, rfl, hA, h64, q⟩ := q
  obtain ⟨u, rfl, ru⟩ := vals1 r
  cases (show u = Value.ref a from ru)
  obtain ⟨⟨es, ep, t⟩, ho, F, nd, hb, hr, hl⟩ := (show SetTx X.prog X.w s.heap a l from (I.hok a _ hA).1)
  have es1 : es.size = l.length := F.sz
  refine Calls.call_function_entry PyProof.Rows.kind_sorted PyProof.Rows.plain_sorted PyProof.Rows.entry_sorted (PyProof.Rows.args_sorted1 _) ?_
  unfold Builtin.«sorted»
  refine wpAny_bind (m := checkCount "sorted" 1 1 _) (wpAny_pure ?_)
  refine wpAny_bind (collect_set (A := X.A.in1) (I.ok.hd hc) ⟨_, ho, rfl, rfl⟩ F.fit (by rw [es1]; exact hb) hr hl (fun s1 vs k1 hz g1 o1 pm => ?_))
  have el : ∀ e ∈ es.toList, ∃ k t, e.2 = Value.str k t := by
    intro e he
    obtain ⟨⟨k, hk, _⟩, _⟩ := F.el e he
    obtain ⟨t, ht⟩ := Value.isStrOf_shape (x := k) (v := e.2) hk
    exact ⟨k, t, ht⟩
  have hS : StrsAre vs (vs.map txOf) := strs_of fun v hv => by
    obtain ⟨e, he, rfl⟩ := List.mem_map.mp (pm.mem_iff.mp hv)
    exact el e he
  have pk : (vs.map txOf).Perm l := by
    refine perm_of_nodup nd (fun x hx => ?_) ?_
    · obtain ⟨e, he, hk⟩ := (F.mem x).mp hx
      obtain ⟨t, ht⟩ := Value.isStrOf_shape (x := x) (v := e.2) hk
      refine List.mem_map.mpr ⟨e.2, pm.mem_iff.mpr (List.mem_map.mpr ⟨e, he, rfl⟩), ?_⟩
      rw [ht]; rfl
    · rw [List.length_map, pm.length_eq, List.length_map, Array.length_toList, es1]
      exact Nat.le_refl _
  have vl : vs.length < 64 := by
    have := pk.length_eq
    rw [List.length_map] at this
    omega
  have I1 : Inv X pins σ H s1 := I.call' (ch := []) o1 (Un.kept k1) (I.hok.kept k1) (by rw [g1]; exact I.bare) (fun _ z => nomatch z)
  refine wpAny_bind (wpAny_newList ?_ (Nat.le_of_lt (Nat.lt_trans vl (by decide))))
  have hoL : (s1.heap.push (seqObj "list" vs.toArray 0)).get? s1.heap.objs.size = some (seqObj "list" vs.toArray 0) := Heap.get?_push_size _ rfl
  show wpAny _ _ _ _ _ { s1 with heap := s1.heap.push (seqObj "list" vs.toArray 0) }
  refine wpAny_bind (wpAny_holding (wpAny_call_entry PyProof.Rows.slot_list_sort ⟨_, hoL, rfl⟩ PyProof.Rows.entry_list_sort
    (list_sort_treeK strKind_oneLt (s := { s1 with heap := s1.heap.push (seqObj "list" vs.toArray 0) }) hoL hS.keysOf (fun v₁ v₂ rest e => keyKind_strs (by rw [← e]; exact hS)) vl (fun st' hp hs => ⟨_, rfl, ?_⟩))
    (PyProof.Rows.args_list_sort _)))
  obtain ⟨ys, y1, y2, y3⟩ := sorted_out_str hS hp hs
  obtain ⟨c, hcc⟩ := PyProof.Rows.sortedHeap_at (vs := vs) (out := (arrOf st').map (·.2)) hoL
  have yl : (ys.map V.str).length ≤ sizeLine := by
    rw [List.length_map, y2.length_eq, List.length_map]
    exact Nat.le_of_lt (Nat.lt_trans vl (by decide))
  refine wpAny_pure ⟨_, rfl, .ref s1.heap.objs.size, upd H s1.heap.objs.size (.lst (ys.map V.str)), I1.laid (t' := s1.toks) (fun b o e => ?_) (Nat.le_refl _)
    (show ObjOk X.prog X.w _ _ _ (.lst (ys.map V.str)) from ⟨yl, ((arrOf st').map (·.2)).toList, c, vals_of_strs y1, by rw [Array.toArray_toList]; exact hcc⟩), rfl, q ys _ (y2.trans pk) y3 (I1.hok.fresh (Nat.le_refl _))⟩
  have lt : b < s1.heap.objs.size := Heap.lt_size e
  rw [PyProof.Rows.sortedHeap_old (Nat.ne_of_lt lt) (by rw [size_push']; exact Nat.lt_succ_of_lt lt)]
  exact Heap.get?_push_of_some _ e
end
end Rl
end
section
set_option maxHeartbeats 2000000
namespace Rl
open PySem PySem.Spec PyProof.Rows L2
theorem perm_map_inv {α β : Type} {f : α → β} : ∀ {m : List α} {l : List β}, l.Perm (m.map f) → ∃ m' : List α, m'.Perm m ∧ l = m'.map f
  | [], l, h => ⟨[], .nil, List.perm_nil.mp h⟩
  | x :: r, l, h => by
    have hx : f x ∈ l := h.mem_iff.mpr (by rw [List.map_cons]; exact List.mem_cons_self)
    obtain ⟨l1, l2, rfl⟩ := List.append_of_mem hx
    have h2 : (l1 ++ l2).Perm (r.map f) := (List.perm_middle.symm.trans h).cons_inv
    obtain ⟨m', pm, e⟩ := perm_map_inv h2
    obtain ⟨a, b, rfl, rfl, rfl⟩ := List.append_eq_map_iff.mp e
    exact ⟨a ++ x :: b, List.perm_middle.trans (pm.cons x), by rw [List.map_append, List.map_cons]⟩
/-- a pair of texts as a key of a dict -/
def pk (p : Str × Str) : List Key := [Sum.inr p.1, Sum.inr p.2]
def kx (p : Str × Str) : List (Int ⊕ List Nat) := [Sum.inr p.1.cps.toList, Sum.inr p.2.cps.toList]
/-- as Python sorts them -/
def ltP (p q : Str × Str) : Bool := lexLt itemOrd (kx p) (kx q)
section
variable {prog : Program} {w : World} {d : Addr} {es : Array DictEntry} {ep : Nat}
theorem rawSrc (lo : (d == sysModules) = false) : PySem.W.KdlSrc prog w "dict" d d es.size (fun i v => ∃ hi : i < es.size, v = es[i].key) (fun h => h.DictRaw d es ep) where
  type := fun _ hm => hm.typeIs
  there := fun _ hm => ⟨Heap.lt_size hm.choose_spec.1, Heap.lt_size hm.choose_spec.1⟩
  keep := fun _ _ hm hk => hm.at fun o e => hk d (.inl rfl) o e
  notList := by decide
  notTuple := by decide
  hint := fun _ _ _ _ hm hq => PySem.W.kdl_hint_dict hm.typeIs hq
  iter := fun A s hh hm => ⟨_, _, (fun _ _ hq => wpAny_pyIter_dict_raw lo hm hq), Walks.rawKeys hh _ d (Nat.ne_of_lt (Heap.lt_size hm.choose_spec.1)) es ep,
    ⟨⟨_, Heap.get?_push_size _ rfl, rfl, rfl⟩, hm.at fun o e => Heap.get?_push_of_some _ e⟩⟩
end
section
variable {X : Cx}
def rSortD : List V → Hp → VK → Prop := fun vs H Q => ∃ (a : Addr) (kvs : List (List Key × V)) (ps : List (Str × Str)), vs = [.ref a] ∧ Rd H a (.dT kvs) ∧ kvs.map (·.1) = ps.map pk ∧ ps.length ≤ 1000 ∧
  ∀ (qs : List (Addr × (Str × Str))) (p : Addr), (qs.map (·.2)).Perm ps → (qs.map (·.2)).Pairwise (fun x y => ltP y x = false) → (∀ q ∈ qs, H q.1 = some (.tup [.str q.2.1, .str q.2.2])) → H p = none →
    Q (.ref p) (upd H p (.lst (qs.map fun q => V.ref q.1)))
theorem pk_inj {p q : Str × Str} (h : pk p = pk q) : p = q := by
  obtain ⟨a, b⟩ := p
  obtain ⟨c, e⟩ := q
  simp only [pk, List.cons.injEq, Sum.inr.injEq, and_true] at h
  rw [h.1, h.2]
/-- the entries, told by their addresses and pairs -/
theorem kt_pairs {H : Hp} : ∀ {kvs : List (List Key × V)} {xs : List (List Key × Addr × Value)} {ps : List (Str × Str)}, Paired (fun (p : List Key × V) (q : List Key × Addr × Value) => p.1 = q.1 ∧ H q.2.1 = some (.tup (p.1.map kV)) ∧ RelV p.2 q.2.2) kvs xs →
    kvs.map (·.1) = ps.map pk → ∃ qs : List (Addr × (Str × Str)), qs.map (·.2) = ps ∧ xs.map (fun y => y.2.1) = qs.map (·.1) ∧ ∀ q ∈ qs, H q.1 = some (.tup [.str q.2.1, .str q.2.2])
  | [], _, ps, .nil, e => by
    have : ps = [] := List.map_eq_nil_iff.mp e.symm
    subst this
    exact ⟨[], rfl, rfl, fun q h => (List.not_mem_nil h).elim⟩
  | (k, v) :: r, _, [], .cons _ _, e => by simp at e
  | (k, v) :: r, _, p :: ps, .cons (b := y) h t, e => by
    rw [List.map_cons, List.map_cons] at e
    injection e with e1 e2
    obtain ⟨qs, h1, h2, h3⟩ := kt_pairs t e2
    have e1' : k = pk p := e1
    refine ⟨(y.2.1, p) :: qs, by rw [List.map_cons, h1], by rw [List.map_cons, List.map_cons, h2], fun q hq => ?_⟩
    rcases List.mem_cons.mp hq with rfl | hq
    · have := h.2.1
      rw [e1'] at this
      exact this
    · exact h3 q hq
theorem call_sortD (hc : X.calm = true) : CallR X (.builtin "sorted") rSortD := by
  intro pins s σ H xs us Q I r q
  obtain ⟨a, kvs, ps, rfl, hA, hks, hlen, q⟩ := q
  obtain ⟨u, rfl, ru⟩ := vals1 r
  cases (show u = Value.ref a from ru)
  obtain ⟨z, lo, ws, rel, dd⟩ := dt_rd I.hok hA
  obtain ⟨qs, hq1, hq2, hq3⟩ := kt_pairs rel hks
  obtain ⟨es, ep, raw, esz, hes⟩ := dd.raw
  have wl : ws.length = ps.length := by
    have := congrArg List.length hq2
    have h2 := congrArg List.length hq1
    simp only [List.length_map] at this h2
    omega
  have ql : qs.length = ps.length := by
    have h2 := congrArg List.length hq1
    simpa only [List.length_map] using h2
  refine Calls.call_function_entry PyProof.Rows.kind_sorted PyProof.Rows.plain_sorted PyProof.Rows.entry_sorted (PyProof.Rows.args_sorted1 _) ?_
  unfold Builtin.«sorted»
  refine wpAny_bind (m := checkCount "sorted" 1 1 _) (wpAny_pure ?_)
  refine wpAny_bind (PySem.W.kdu_collect (A := X.A.in1) (rawSrc lo) (I.ok.hd hc) raw (by rw [esz, wl]; exact Nat.le_of_lt (small1000 hlen)) (fun h' tk acc hk hacc => ?_))
  have vE : acc.toList = qs.map (fun q => Value.ref q.1) := by
    apply List.ext_getElem?
    intro i
    by_cases hi : i < acc.size
    · obtain ⟨hi2, e⟩ := hacc.2 i acc[i] (Array.getElem?_eq_getElem hi)
      obtain ⟨y, y1, y2, _⟩ := hes i hi2
      have e3 : (ws.map (fun y => y.2.1))[i]? = some y.2.1 := by rw [List.getElem?_map, y1]; rfl
      rw [hq2, List.getElem?_map] at e3
      rw [Array.getElem?_toList, Array.getElem?_eq_getElem hi, e, y2, List.getElem?_map]
      cases h5 : qs[i]? with
      | none => rw [h5] at e3; cases e3
      | some q5 =>
        rw [h5] at e3
        have : q5.1 = y.2.1 := Option.some.inj e3
        show some (Value.ref y.2.1) = some (Value.ref q5.1)
        rw [this]
    · rw [List.getElem?_eq_none (by rw [Array.length_toList]; omega), List.getElem?_eq_none (by rw [List.length_map]; have := hacc.1; omega)]
  rw [vE]
  have I1 : Inv X pins σ H { s with heap := h', toks := tk } := I.kept hk
  have vl : (qs.map (fun q => Value.ref q.1)).length ≤ sizeLine := by rw [List.length_map, ql]; exact Nat.le_of_lt (small1000 hlen)
  refine wpAny_bind (wpAny_newList ?_ vl)
  have hoL : (h'.push (seqObj "list" (qs.map (fun q => Value.ref q.1)).toArray 0)).get? h'.objs.size = some (seqObj "list" (qs.map (fun q => Value.ref q.1)).toArray 0) := Heap.get?_push_size _ rfl
  show wpAny _ _ _ _ _ { s with heap := h'.push (seqObj "list" (qs.map (fun q => Value.ref q.1)).toArray 0), toks := tk }
  have tup : ∀ q ∈ qs, ∃ o n t1 t2, (h'.push (seqObj "list" (qs.map (fun q => Value.ref q.1)).toArray 0)).get? q.1 = some o ∧ o.cls = .type "tuple" ∧ o.data = .seq #[.str q.2.1 t1, .str q.2.2 t2] n := by
    intro q hq
    obtain ⟨_, its, rv, o, ho, hcl, n, hd⟩ := (show ObjOk X.prog X.w H h' q.1 (.tup [.str q.2.1, .str q.2.2]) from I1.hok q.1 _ (hq3 q hq))
    cases rv with
    | cons r1 r2 =>
      cases r2 with
      | cons r2 r3 =>
        cases r3
        obtain ⟨t1, rfl⟩ := r1
        obtain ⟨t2, rfl⟩ := r2
        exact ⟨o, n, t1, t2, Heap.get?_push_of_some _ ho, hcl, hd⟩
  have key : ∀ q ∈ qs, G.tupKeyC (h'.push (seqObj "list" (qs.map (fun q => Value.ref q.1)).toArray 0)) (fun _ => true) (.ref q.1) = some (kx q.2) := by
    intro q hq
    obtain ⟨o, n, t1, t2, ho, hcl, hd⟩ := tup q hq
    unfold G.tupKeyC G.isTupObj tupKey
    simp only [ho, hcl, hd]
    rfl
  have tof : ∀ {l : List (Addr × (Str × Str))}, (∀ q ∈ l, q ∈ qs) → ∃ fs, TupsOf (h'.push (seqObj "list" (qs.map (fun q => Value.ref q.1)).toArray 0)) (fun _ => true) (l.map (fun q => Value.ref q.1)) fs := by
    intro l
    induction l with
    | nil => intro _; exact ⟨[], .nil⟩
    | cons q r ih =>
      intro h
      obtain ⟨fs, hf⟩ := ih fun x hx => h x (List.mem_cons_of_mem _ hx)
      obtain ⟨o, n, t1, t2, ho, hcl, hd⟩ := tup q (h q List.mem_cons_self)
      exact ⟨.str q.2.1 t1 :: fs, .cons ⟨q.1, o, _, n, rfl, ho, hcl, hd, rfl, fun z => Bool.noConfusion z, fun _ => ⟨_, _, rfl⟩⟩ hf⟩
  obtain ⟨fs, hfs⟩ := tof (l := qs) fun _ h => h
  have hkk : ∀ v ∈ qs.map (fun q => Value.ref q.1), ∃ l, G.tupKeyC (h'.push (seqObj "list" (qs.map (fun q => Value.ref q.1)).toArray 0)) (fun _ => true) v = some l := by
    intro v hv
    obtain ⟨q, hq, rfl⟩ := List.mem_map.mp hv
    exact ⟨_, key q hq⟩
  refine wpAny_bind (wpAny_holding (wpAny_call_entry PyProof.Rows.slot_list_sort ⟨_, hoL, rfl⟩ PyProof.Rows.entry_list_sort
    (G.list_sort_tups (s := { s with heap := h'.push (seqObj "list" (qs.map (fun q => Value.ref q.1)).toArray 0), toks := tk }) (shape := fun _ => true) (fs := fs) hoL hfs hkk vl (fun st' hp hs _ => ⟨_, rfl, ?_⟩)) (PyProof.Rows.args_list_sort _)))
  obtain ⟨c, hcc⟩ := PyProof.Rows.sortedHeap_at (vs := qs.map (fun q => Value.ref q.1)) (out := (arrOf st').map (·.2)) hoL
  have hpl : (arrOf st').toList.Perm (qs.map (fun q => (Value.ref q.1, Value.ref q.1))) := by
    have h1 := hp
    have h2 : (pairsOf (qs.map (fun q => Value.ref q.1))).toList = qs.map (fun q => (Value.ref q.1, Value.ref q.1)) := by
      rw [pairsOf_toList, List.zip_map', ]
    rw [← h2]
    exact h1.toList
  obtain ⟨L, pL, eL⟩ := perm_map_inv hpl
  have hout : ((arrOf st').map (·.2)).toList = L.map (fun q => Value.ref q.1) := by
    rw [Array.toList_map, eL, List.map_map]; rfl
  have kOf := G.tupKeys hkk
  have srt := keyLe_of_sorted (kOf.perm hp) (by rw [hp.size_eq]; exact hs)
  rw [eL] at srt
  have memL : ∀ q ∈ L, q ∈ qs := fun q hq => pL.mem_iff.mp hq
  have sL : (L.map (·.2)).Pairwise (fun x y => ltP y x = false) := by
    rw [List.pairwise_map] at srt ⊢
    refine srt.imp_of_mem ?_
    intro x y hx hy h
    obtain ⟨a1, b1, ka, kb, le⟩ := h
    have e1 : some a1 = some (kx x.2) := ka.symm.trans (key x (memL x hx))
    have e2 : some b1 = some (kx y.2) := kb.symm.trans (key y (memL y hy))
    rw [Option.some.inj e1, Option.some.inj e2] at le
    exact le
  have ll : (L.map (fun q => V.ref q.1)).length ≤ sizeLine := by rw [List.length_map, pL.length_eq, ql]; exact Nat.le_of_lt (small1000 hlen)
  have vals : ∀ l : List (Addr × (Str × Str)), Vals (l.map (fun q => V.ref q.1)) (l.map (fun q => Value.ref q.1)) := by
    intro l
    induction l with
    | nil => exact .nil
    | cons x r ih => exact .cons rfl ih
  refine wpAny_pure ⟨_, rfl, .ref h'.objs.size, upd H h'.objs.size (.lst (L.map fun q => V.ref q.1)), I1.laid (t' := tk) (fun b o e => ?_) (Nat.le_refl _)
    (show ObjOk X.prog X.w _ _ _ (.lst (L.map fun q => V.ref q.1)) from ⟨ll, L.map (fun q => Value.ref q.1), c, vals L, by rw [← hout, Array.toArray_toList]; exact hcc⟩), rfl,
    q L _ (by rw [← hq1]; exact pL.map _) sL (fun x hx => hq3 x (memL x hx)) (I1.hok.fresh (Nat.le_refl _))⟩
  have lt : b < h'.objs.size := Heap.lt_size e
  rw [PyProof.Rows.sortedHeap_old (Nat.ne_of_lt lt) (by rw [size_push']; exact Nat.lt_succ_of_lt lt)]
  exact Heap.get?_push_of_some _ e
end
end Rl
end
section
namespace Nl
open PySem PySem.Spec PyProof.Rows L2
/-! ### the text -/
def tp (i : Nat) : Stmt := PySem.Challenge.pw_backwater_k25_many_at_once_as_one_by_one.main.body.getD i (.Pass ⟨0, 0, 0, 0⟩)
abbrev sWhole : Stmt := tp 20
abbrev sWrong : Stmt := tp 23
abbrev sForAll : Stmt := tp 24
abbrev mStand_init : Stmt := inClass (tp 26) 0
abbrev mStand_net : Stmt := inClass (tp 26) 1
abbrev mStand_poured : Stmt := inClass (tp 26) 2
abbrev mStand_count : Stmt := inClass (tp 26) 3
abbrev mStand_water : Stmt := inClass (tp 26) 4
abbrev mStand_pours : Stmt := inClass (tp 26) 5
abbrev mStand_counts : Stmt := inClass (tp 26) 6
abbrev mStand_waters : Stmt := inClass (tp 26) 7
abbrev mStand_eq : Stmt := inClass (tp 26) 8
abbrev mStand_repr : Stmt := inClass (tp 26) 9
abbrev sCkTimes : Stmt := tp 28
abbrev sMost : Stmt := tp 29
abbrev sCan : Stmt := tp 30
abbrev sSpilled : Stmt := tp 31
abbrev sName : Stmt := tp 37
abbrev sMeas : Stmt := tp 38
abbrev sPondOf : Stmt := tp 39
abbrev sPairOf : Stmt := tp 40
abbrev sGoes : Stmt := tp 41
abbrev sComes : Stmt := tp 42
abbrev sPipesOut : Stmt := tp 43
abbrev sPipesIn : Stmt := tp 44
abbrev sSteps : Stmt := tp 45
abbrev sCkPonds : Stmt := tp 46
abbrev sCkPipes : Stmt := tp 47
abbrev sCkSides : Stmt := tp 48
abbrev sCkWays : Stmt := tp 49
abbrev mNet_init : Stmt := inClass (tp 50) 0
abbrev mNet_has_pond : Stmt := inClass (tp 50) 1
abbrev mNet_check_pond : Stmt := inClass (tp 50) 2
abbrev mNet_ponds : Stmt := inClass (tp 50) 3
abbrev mNet_brim : Stmt := inClass (tp 50) 4
abbrev mNet_width : Stmt := inClass (tp 50) 6
abbrev mNet_ins : Stmt := inClass (tp 50) 8
abbrev mNet_brims : Stmt := inClass (tp 50) 9
abbrev mNet_pipes : Stmt := inClass (tp 50) 10
abbrev mNet_eq : Stmt := inClass (tp 50) 11
abbrev mNet_len : Stmt := inClass (tp 50) 12
abbrev mNet_repr : Stmt := inClass (tp 50) 13
abbrev sPot : Stmt := tp 52
abbrev sDraw : Stmt := tp 53
abbrev sLName : Stmt := tp 54
abbrev sClosed : Stmt := tp 55
abbrev sRoom : Stmt := tp 56
abbrev sNet : Stmt := tp 57
abbrev sSome : Stmt := tp 58
abbrev sLWater : Stmt := tp 59
abbrev sLWaters : Stmt := tp 60
abbrev sMore : Stmt := tp 61
abbrev sOneBy : Stmt := tp 62
abbrev sIsSpilled : Stmt := tp 63
abbrev sLaw : Stmt := tp 64
end Nl
end
section
namespace Nl
open PySem PySem.Spec PyProof.Rows L2 Nt
/-! ### heaps -/
def Kp (p : Addr) (H H' : Hp) : Prop := ∀ b o, b ≠ p → H b = some o → H' b = some o
theorem Kp.trans {p : Addr} {H H1 H2 : Hp} (x : Kp p H H1) (y : Kp p H1 H2) : Kp p H H2 := fun b o n e => y b o n (x b o n e)
theorem Kp.new {p q : Addr} {H : Hp} {o : HO} (h : H q = none) : Kp p H (upd H q o) := fun b u _ e => by
  rw [upd_ne (ne_of_none e h)]; exact e
theorem Kp.here {p : Addr} {H : Hp} {o : HO} : Kp p H (upd H p o) := fun b u n e => by
  rw [upd_ne n]; exact e
theorem Kp.of_same {p : Addr} {H H' : Hp} (h : Same H H') : Kp p H H' := fun b o _ e => h b o e
theorem same_new {H : Hp} {p : Addr} {o : HO} (h : H p = none) : Same H (upd H p o) := fun b x e => by
  rw [upd_ne (ne_of_none e h)]; exact e
/-- behind a lock: all is as it was -/
theorem same_lock {H H1 : Hp} {d : Addr} {u : HO} {od : Obj} (hd : H d = some u) (s : Same (upd H d (.frz od u)) H1) : H1 d = some (.frz od u) ∧ Same H (upd H1 d u) := by
  refine ⟨s d _ upd_same, fun b o e => ?_⟩
  by_cases hb : b = d
  · subst hb
    rw [hd] at e
    rw [upd_same]; exact e
  · rw [upd_ne hb]
    exact s b o (by rw [upd_ne hb]; exact e)
/-! ### the two dicts -/
def bk (B : Br) : List (Key × V) := B.map fun p => (Sum.inr p.1, V.int p.2)
def pt (P : Pi) : List (List Key × V) := P.map fun p => (Rl.pk p.1, V.int p.2)
def getP (P : Pi) (q : Str × Str) : Option Int := (P.find? fun p => decide (p.1 = q)).map (·.2)
theorem valV_bk (B : Br) (x : Str) : valV (bk B) (Sum.inr x : Key) = (getB B x).map V.int := by
  induction B with
  | nil => rfl
  | cons p r ih =>
    unfold valV getB bk
    rw [List.map_cons, List.find?_cons, List.find?_cons]
    by_cases h : p.1 = x
    · have e1 : decide ((Sum.inr p.1 : Key) = Sum.inr x) = true := decide_eq_true (by rw [h])
      rw [show decide (((Sum.inr p.1 : Key), V.int p.2).1 = Sum.inr x) = true from e1, show decide (p.1 = x) = true from decide_eq_true h]; rfl
    · have e1 : decide ((Sum.inr p.1 : Key) = Sum.inr x) = false := decide_eq_false (fun z => h (Sum.inr.inj z))
      rw [show decide (((Sum.inr p.1 : Key), V.int p.2).1 = Sum.inr x) = false from e1, show decide (p.1 = x) = false from decide_eq_false h]
      exact ih
theorem valV_pt (P : Pi) (q : Str × Str) : valV (pt P) (Rl.pk q) = (getP P q).map V.int := by
  induction P with
  | nil => rfl
  | cons p r ih =>
    unfold valV getP pt
    rw [List.map_cons, List.find?_cons, List.find?_cons]
    by_cases h : p.1 = q
    · have e1 : decide (Rl.pk p.1 = Rl.pk q) = true := decide_eq_true (by rw [h])
      rw [show decide ((Rl.pk p.1, V.int p.2).1 = Rl.pk q) = true from e1, show decide (p.1 = q) = true from decide_eq_true h]; rfl
    · have e1 : decide (Rl.pk p.1 = Rl.pk q) = false := decide_eq_false (fun z => h (Rl.pk_inj z))
      rw [show decide ((Rl.pk p.1, V.int p.2).1 = Rl.pk q) = false from e1, show decide (p.1 = q) = false from decide_eq_false h]
      exact ih
theorem getP_of_mem {P : Pi} (nd : (P.map Prod.fst).Nodup) {q : Str × Str} {w : Int} (h : (q, w) ∈ P) : getP P q = some w := by
  induction P with
  | nil => exact (List.not_mem_nil h).elim
  | cons p r ih =>
    obtain ⟨n1, n2⟩ := List.nodup_cons.mp (show (p.1 :: r.map Prod.fst).Nodup from nd)
    unfold getP
    rw [List.find?_cons]
    rcases List.mem_cons.mp h with e | e
    · rw [← e]; simp
    · have ne : p.1 ≠ q := fun z => n1 (by rw [z]; exact List.mem_map.mpr ⟨_, e, rfl⟩)
      rw [decide_eq_false ne]
      exact ih n2 e
/-! ### texts -/
def Sm (n : Nat) (z : Str) : Prop := z.length ≤ n ∧ ∀ c ∈ z.cps.toList, c < 1000
theorem len_list (z : Str) : z.length = z.cps.toList.length := by
  show z.cps.size = _
  rw [Array.length_toList]
def abc : Str := "abcdefghijklmnopqrstuvwxyz"
def nameB (z : Str) : Bool := decide (1 ≤ z.length ∧ z.length ≤ 8) && z.cps.toList.all fun c => decide (c ∈ abc.cps.toList)
def Nm (z : Str) : Prop := nameB z = true
theorem abc_small : ∀ c ∈ abc.cps.toList, c < 1000 := by decide +kernel
theorem Nm.iff {z : Str} : Nm z ↔ (1 ≤ z.length ∧ z.length ≤ 8) ∧ ∀ c ∈ z.cps.toList, c ∈ abc.cps.toList := by
  unfold Nm nameB
  rw [Bool.and_eq_true, decide_eq_true_iff, List.all_eq_true]
  simp only [decide_eq_true_iff]
theorem Nm.sm {z : Str} (h : Nm z) : Sm 8 z := ⟨(Nm.iff.mp h).1.2, fun c hc => abc_small c ((Nm.iff.mp h).2 c hc)⟩
theorem Sm.mono {m n : Nat} {z : Str} (h : Sm m z) (l : m ≤ n) : Sm n z := ⟨Nat.le_trans h.1 l, h.2⟩
theorem Sm.fits {n : Nat} {z : Str} (h : Sm n z) (l : n ≤ 1000) : z.length ≤ sizeLine := Nat.le_of_lt (small1000 (Nat.le_trans h.1 l))
theorem line1000 {n : Nat} (h : n ≤ 1000) : n ≤ sizeLine := Nat.le_of_lt (small1000 h)
theorem decStr (a b : Str) : decide (V.str a = V.str b) = decide (a = b) := by
  by_cases h : a = b
  · rw [decide_eq_true h, decide_eq_true (by rw [h])]
  · rw [decide_eq_false h, decide_eq_false (fun z => h (V.str.inj z))]
section
variable {P : Program} {w : World} {K : PySem.W.Frag} {mg : Str → Option Value} {base : Heap}
/-! ### is_whole, is_name, is_measure -/
theorem scWhole : FnScope ["thing", "least"] ["thing", "least"] (defScope sWhole) := ⟨rfl, rfl, rfl, by decide +kernel, rfl, by decide +kernel, by decide +kernel⟩
def spWhole : Sp := fun vs H Q _ => ∃ i j : Int, vs = [.int i, .int j] ∧ Q (.bl (decide (i ≥ j))) H
theorem ok_whole {f : Addr} {fd : FuncData} {k : Nat} (F : Fun K "is_whole" "is_whole" sWhole f fd) (mi : mg "isinstance" = none) (mt : mg "int" = none) (mb : mg "bool" = none) :
    FnOk P w K mg base CX0 (k + 1) f fd ["thing", "least"] spWhole := by
  refine F.ok scWhole (fun vs H Q E h => ?_) (fun cdv A outer s H vs Q E hr h => ?_)
  · obtain ⟨i, j, rfl, _⟩ := h
    rfl
  · obtain ⟨i, j, rfl, q⟩ := h
    refine ⟨_, pss_one (ps_ret (pe_and (pe_callB call_isi (by rfl) mi (by decide +kernel) (pa_cons (pv 0) (pa_cons (pe_bltn (v := .ty "int") (by rfl) mt (by decide +kernel) rfl) pa_nil)))
      (pe_and (pe_not (pe_callB call_isi (by rfl) mi (by decide +kernel) (pa_cons (pv 0) (pa_cons (pe_bltn (v := .ty "bool") (by rfl) mb (by decide +kernel) rfl) pa_nil)))) (pe_one (pe_cmpR op_ge (pv 0) (pv 1) (nomark _)))))), ?_⟩
    refine ⟨.int i, rfl, .int i, .ty "int", .type "int", .type "int", true, rfl, .ty _, .base (.int i), kit_ty (by decide +kernel), true, rfl, iteT ?_⟩
    refine ⟨.int i, rfl, .int i, .ty "bool", .type "int", .type "bool", false, rfl, .ty _, .base (.int i), kit_ty (by decide +kernel), false, rfl, true, rfl, iteT ?_⟩
    exact ⟨.int i, rfl, .int j, rfl, i, j, rfl, rfl, q⟩
theorem scName : FnScope ["thing", "letter"] ["thing"] (defScope sName) := ⟨rfl, rfl, rfl, by decide +kernel, rfl, by decide +kernel, by decide +kernel⟩
def spName : Sp := fun vs H Q _ => ∃ z : Str, vs = [.str z] ∧ Sm 25 z ∧ ∀ H', Same H H' → Q (.bl (nameB z)) H'
theorem ok_name {f : Addr} {fd : FuncData} {k : Nat} {tm tl : Tok} (F : Fun K "is_name" "is_name" sName f fd) (mi : mg "isinstance" = none) (ms : mg "str" = none) (ml : mg "len" = none) (ma : mg "all" = none)
    (gM : mg "MOST_LETTERS" = some (.int 8 tm)) (gL : mg "LETTERS" = some (.str abc tl)) : FnOk P w K mg base CX0 (k + 1) f fd ["thing"] spName := by
  refine F.ok scName (fun vs H Q E h => ?_) (fun cdv A outer s H vs Q E hr h => ?_)
  · obtain ⟨z, rfl, _⟩ := h
    rfl
  · obtain ⟨z, rfl, hz, q⟩ := h
    refine ⟨_, pss_cons (ps_if (PW.pt (pw_or (pt_not (pt_val (pe_callB call_isi (by rfl) mi (by decide +kernel) (pa_cons (pv 0) (pa_cons (pe_bltn (v := .ty "str") (by rfl) ms (by decide +kernel) rfl) pa_nil)))))
        (pw_or1 (pt_not (pt_chain op_le op_le pe_int (pe_callB call_len_str (by rfl) ml PySem.boot_len (pa_cons (pv 0) pa_nil)) (pe_glob (v := .int 8) rfl gM ⟨_, rfl⟩)))))) (pss_one (ps_ret pe_bl)) pss_nil)
      (pss_one (ps_ret (pe_callB (cr_all rfl) (by rfl) ma (by decide +kernel) (pa_cons (pe_lc (own := [("letter", 1)]) (g := gName 1) (tt := tYes) rfl scName.nd (pi_str (pv 0))
        (blkOk_by (N := ["thing", "letter"]) (sc := defScope sName) (by decide +kernel)) (fun _ _ _ _ _ => pg_name (i := 1) scName.nd rfl (Or.inl rfl)) (fun _ _ _ _ _ => pts_nil)
        (fun _ _ _ _ _ => pe_cmpR op_in_sign (pv 1) (pe_glob (v := .str abc) rfl gL ⟨_, rfl⟩) (by rfl))) pa_nil)))), ?_⟩
    refine ⟨.str z, rfl, .str z, .ty "str", .type "str", .type "str", true, rfl, .ty _, .base (.str z), kit_ty (by decide +kernel), true, rfl, iteF ?_⟩
    have hf := hz.fits (by decide)
    have no : ¬ (1 ≤ z.length ∧ z.length ≤ 8) → nameB z = false := fun h => by
      unfold nameB
      rw [decide_eq_false h]; rfl
    refine ⟨.str z, rfl, z, rfl, hf, 1, _, rfl, rfl, _, rfl, ite2 (fun c1 => ?_) (fun c1 => ?_)⟩
    · refine ⟨_, _, rfl, rfl, _, rfl, ite2 (fun c2 => ?_) (fun c2 => ?_)⟩
      · have c3 : ¬ ((z.length : Int) ≤ 8) := fun e => by rw [decide_eq_true e] at c2; cases c2
        have := q H (Same.refl H)
        rw [no (by omega)] at this
        exact this
      · have c1' := of_decide_eq_true c1
        have c3 : (z.length : Int) ≤ 8 := by
          by_cases e : (z.length : Int) ≤ 8
          · exact e
          · rw [decide_eq_false e] at c2; exact absurd rfl c2
        refine ⟨.str z, rfl, z, rfl, fun D nD => ?_⟩
        refine lc_it walk_str (fun i H1 => ∃ bs : List Bool, H1 D = some (.lst (bs.map V.bl)) ∧ bs = (z.cps.toList.take i).map (fun c => decide (c ∈ abc.cps.toList)) ∧ Same H H1) ?_ (fun _ _ _ _ => trivial) ?_ ?_
        · exact ⟨[], upd_same, rfl, same_new nD⟩
        · rintro i x H1 H2 hi ⟨bs, hD, hb, sm⟩ ⟨rfl, c, hc, rfl⟩
          have hc' : z.cps.toList[i]? = some c := by rw [Array.getElem?_toList]; exact hc
          refine ⟨rfl, .str ⟨#[c]⟩, rfl, c, abc, rfl, rfl, _, hD, ?_, bs ++ [decide (c ∈ abc.cps.toList)], ?_, ?_, ?_⟩
          · rw [List.length_map, hb, List.length_map, List.length_take]
            exact small1000 (by have := hz.1; rw [len_list] at this; omega)
          · rw [upd_same, List.map_append]; rfl
          · rw [hb, List.take_add_one, hc', List.map_append]; rfl
          · exact fun b o e => by
              have nb : b ≠ D := ne_of_none e nD
              rw [upd_ne nb]; exact sm b o e
        · rintro H1 ⟨bs, hD, hb, sm⟩
          refine ⟨D, bs, rfl, SqL.of hD, ?_⟩
          have e : bs.all id = nameB z := by
            unfold nameB
            rw [decide_eq_true (show 1 ≤ z.length ∧ z.length ≤ 8 by omega), hb, List.take_of_length_le (by rw [Array.length_toList]; exact Nat.le_refl _), List.all_map]
            rfl
          rw [e]
          exact q H1 sm
    · refine ⟨false, rfl, iteT ?_⟩
      have c3 : ¬ ((1 : Int) ≤ (z.length : Int)) := fun e => c1 (decide_eq_true e)
      have := q H (Same.refl H)
      rw [no (by omega)] at this
      exact this
theorem scMeas : FnScope ["thing"] ["thing"] (defScope sMeas) := ⟨rfl, rfl, rfl, by decide +kernel, rfl, by decide +kernel, by decide +kernel⟩
def spMeas : Sp := fun vs H Q _ => ∃ i : Int, vs = [.int i] ∧ 1 ≤ i ∧ i ≤ 60 ∧ Q (.bl true) H
theorem ok_meas {f fW : Addr} {fd fdW : FuncData} {tm : Tok} (F : Fun K "is_measure" "is_measure" sMeas f fd) (FW : Fun K "is_whole" "is_whole" sWhole fW fdW) (GW : FnOk P w K mg base CX0 1 fW fdW ["thing", "least"] spWhole) (bW : Binds K fdW ["thing", "least"] []) (gW : mg "is_whole" = some (.ref fW))
    (gM : mg "MOST_BRIM" = some (.int 60 tm)) : FnOk P w K mg base CX0 2 f fd ["thing"] spMeas := by
  refine F.ok scMeas (fun vs H Q E h => ?_) (fun cdv A outer s H vs Q E hr h => ?_)
  · obtain ⟨i, rfl, _⟩ := h
    rfl
  · obtain ⟨i, rfl, l1, l2, q⟩ := h
    refine ⟨_, pss_one (ps_ret (pe_and (pe_call GW hr (by rfl) gW FW.kp bW .nil pass0 (pa_cons (pv 0) (pa_cons pe_int pa_nil))) (pe_one (pe_cmpR op_le (pv 0) (pe_glob (v := .int 60) rfl gM ⟨_, rfl⟩) (nomark _))))), ?_⟩
    refine ⟨.int i, rfl, i, 1, rfl, ?_⟩
    rw [decide_eq_true (show i ≥ 1 from l1)]
    refine ⟨true, rfl, iteT ⟨.int i, rfl, i, 60, rfl, rfl, ?_⟩⟩
    show Q (.bl (decide (i ≤ 60))) H
    rw [decide_eq_true l2]
    exact q
end
end Nl
end
section
namespace Nl
open PySem PySem.Spec PyProof.Rows L2 Nt
theorem Rd.same {H H' : Hp} {a : Addr} {u : HO} (h : Rd H a u) (s : Same H H') : Rd H' a u := by
  rcases h with h | ⟨o, h⟩
  · exact .inl (s _ _ h)
  · exact .inr ⟨o, s _ _ h⟩
theorem getB_isSome (B : Br) (x : Str) : ((getB B x).map V.int).isSome = decide (x ∈ nms B) := by
  by_cases h : x ∈ nms B
  · obtain ⟨b, e⟩ := getB_some h
    rw [e, decide_eq_true h]; rfl
  · rw [getB_none h, decide_eq_false h]; rfl
section
variable {P : Program} {w : World} {K : PySem.W.Frag} {mg : Str → Option Value} {base : Heap}
theorem scPondOf : FnScope ["brims", "thing"] ["brims", "thing"] (defScope sPondOf) := ⟨rfl, rfl, rfl, by decide +kernel, rfl, by decide +kernel, by decide +kernel⟩
def spPondOf : Sp := fun vs H Q _ => ∃ (a : Addr) (B : Br) (z : Str), vs = [.ref a, .str z] ∧ Rd H a (.dK (bk B)) ∧ Sm 25 z ∧ ∀ H', Same H H' → Q (.bl (nameB z && decide (z ∈ nms B))) H'
theorem ok_pondOf {f fN : Addr} {fd fdN : FuncData} (F : Fun K "is_pond_of" "is_pond_of" sPondOf f fd) (FN : Fun K "is_name" "is_name" sName fN fdN) (GN : FnOk P w K mg base CX0 1 fN fdN ["thing"] spName) (bN : Binds K fdN ["thing"] []) (gN : mg "is_name" = some (.ref fN)) :
    FnOk P w K mg base CX0 2 f fd ["brims", "thing"] spPondOf := by
  refine F.ok scPondOf (fun vs H Q E h => ?_) (fun cdv A outer s H vs Q E hr h => ?_)
  · obtain ⟨a, B, z, rfl, _⟩ := h
    rfl
  · obtain ⟨a, B, z, rfl, hA, hz, q⟩ := h
    refine ⟨_, pss_one (ps_ret (pe_and (pe_call GN hr (by rfl) gN FN.kp bN .nil pass0 (pa_cons (pv 1) pa_nil)) (pe_one (pe_cmp (pc_din (hu_of hr) (pv 1) (pv 0)) rfl)))), ?_⟩
    refine ⟨.str z, rfl, z, rfl, hz, fun H1 s1 => ⟨nameB z, rfl, ite2 (fun e => ?_) (fun e => ?_)⟩⟩
    · refine ⟨.str z, rfl, .ref a, rfl, a, _, rfl, .inl ⟨_, Sum.inr z, Rd.same hA s1, rfl, rfl⟩, ?_⟩
      rw [valV_bk, getB_isSome]
      have := q H1 s1
      rw [e] at this
      exact this
    · have := q H1 s1
      rw [Bool.not_eq_true] at e
      rw [e] at this
      exact this
theorem scPairOf : FnScope ["brims", "thing"] ["brims", "thing"] (defScope sPairOf) := ⟨rfl, rfl, rfl, by decide +kernel, rfl, by decide +kernel, by decide +kernel⟩
def spPairOf : Sp := fun vs H Q _ => ∃ (a t : Addr) (B : Br) (x y : Str), vs = [.ref a, .ref t] ∧ Rd H a (.dK (bk B)) ∧ H t = some (.tup [.str x, .str y]) ∧ Nm x ∧ Nm y ∧ x ∈ nms B ∧ y ∈ nms B ∧ x ≠ y ∧ ∀ H', Same H H' → Q (.bl true) H'
theorem ok_pairOf {f fN : Addr} {fd fdN : FuncData} (F : Fun K "is_pair_of" "is_pair_of" sPairOf f fd) (FN : Fun K "is_pond_of" "is_pond_of" sPondOf fN fdN) (GN : FnOk P w K mg base CX0 2 fN fdN ["brims", "thing"] spPondOf) (bN : Binds K fdN ["brims", "thing"] []) (gN : mg "is_pond_of" = some (.ref fN))
    (mi : mg "isinstance" = none) (mt : mg "tuple" = none) (ml : mg "len" = none) : FnOk P w K mg base CX0 3 f fd ["brims", "thing"] spPairOf := by
  refine F.ok scPairOf (fun vs H Q E h => ?_) (fun cdv A outer s H vs Q E hr h => ?_)
  · obtain ⟨a, t, B, x, y, rfl, _⟩ := h
    rfl
  · obtain ⟨a, t, B, x, y, rfl, hA, hT, nx, ny, mx, my, ne, q⟩ := h
    refine ⟨_, pss_cons (ps_if (PW.pt (pw_or (pt_not (pt_val (pe_callB call_isi (by rfl) mi (by decide +kernel) (pa_cons (pv 1) (pa_cons (pe_bltn (v := .ty "tuple") (by rfl) mt (by decide +kernel) rfl) pa_nil)))))
        (pw_or1 (pt_cmpR op_ne (pe_callB call_len_seq (by rfl) ml PySem.boot_len (pa_cons (pv 1) pa_nil)) pe_int (nomark _))))) (pss_one (ps_ret pe_bl)) pss_nil)
      (pss_one (ps_ret (pe_and (pe_call GN hr (by rfl) gN FN.kp bN .nil pass0 (pa_cons (pv 0) (pa_cons (pe_ix ix_tup (pv 1) pe_int (fun _ _ => rfl)) pa_nil)))
        (pe_and (pe_call GN hr (by rfl) gN FN.kp bN .nil pass0 (pa_cons (pv 0) (pa_cons (pe_ix ix_tup (pv 1) pe_int (fun _ _ => rfl)) pa_nil)))
          (pe_one (pe_cmpR op_ne (pe_ix ix_tup (pv 1) pe_int (fun _ _ => rfl)) (pe_ix ix_tup (pv 1) pe_int (fun _ _ => rfl)) (nomark _))))))), ?_⟩
    have i0 : atI [V.str x, V.str y] 0 = some (.str x) := atI_nat (j := 0) rfl
    have i1 : atI [V.str x, V.str y] 1 = some (.str y) := atI_nat (j := 1) rfl
    refine ⟨.ref t, rfl, .ref t, .ty "tuple", .type "tuple", .type "tuple", true, rfl, .ty _, .base (.tup hT), kit_ty (by decide +kernel), true, rfl, iteF ?_⟩
    refine ⟨.ref t, rfl, t, _, rfl, .inr (SqT.of hT), rfl, _, rfl, iteNS rfl ?_⟩
    refine ⟨.ref a, rfl, .ref t, rfl, t, _, 0, _, rfl, rfl, SqT.of hT, i0, a, B, x, rfl, hA, nx.sm.mono (by decide), fun H1 s1 => ?_⟩
    rw [show nameB x = true from nx, decide_eq_true mx]
    refine ⟨true, rfl, iteT ?_⟩
    refine ⟨.ref a, rfl, .ref t, rfl, t, _, 1, _, rfl, rfl, SqT.of (s1 _ _ hT), i1, a, B, y, rfl, Rd.same hA s1, ny.sm.mono (by decide), fun H2 s2 => ?_⟩
    rw [show nameB y = true from ny, decide_eq_true my]
    refine ⟨true, rfl, iteT ?_⟩
    refine ⟨.ref t, rfl, t, _, 0, _, rfl, rfl, SqT.of (s2 _ _ (s1 _ _ hT)), i0, .ref t, rfl, t, _, 1, _, rfl, rfl, SqT.of (s2 _ _ (s1 _ _ hT)), i1, rfl, ?_⟩
    rw [decStr, decide_eq_false ne]
    exact q H2 (s1.trans s2)
/-! ### goes_out, comes_in -/
theorem scGoes : FnScope ["pipes", "name", "pair"] ["pipes", "name"] (defScope sGoes) := ⟨rfl, rfl, rfl, by decide +kernel, rfl, by decide +kernel, by decide +kernel⟩
def spGoes : Sp := fun vs H Q _ => ∃ (a : Addr) (Pp : Pi) (z : Str), vs = [.ref a, .str z] ∧ H a = some (.dT (pt Pp)) ∧ (Pp.map Prod.fst).Nodup ∧ Pp.length ≤ 200 ∧ ∀ H', Same H H' → Q (.int (outW Pp z)) H'
def spComes : Sp := fun vs H Q _ => ∃ (a : Addr) (Pp : Pi) (z : Str), vs = [.ref a, .str z] ∧ H a = some (.dT (pt Pp)) ∧ (Pp.map Prod.fst).Nodup ∧ Pp.length ≤ 200 ∧ ∀ H', Same H H' → Q (.int (inW Pp z)) H'
theorem pt_at {Pp : Pi} {i : Nat} {k : List Key} {v : V} (h : (pt Pp)[i]? = some (k, v)) : ∃ p, Pp[i]? = some p ∧ k = Rl.pk p.1 ∧ v = .int p.2 := by
  unfold pt at h
  rw [List.getElem?_map] at h
  cases e : Pp[i]? with
  | none => rw [e] at h; cases h
  | some p =>
    rw [e] at h
    have := Option.some.inj h
    injection this with h1 h2
    exact ⟨p, rfl, h1.symm, h2.symm⟩
theorem ok_goes {f : Addr} {fd : FuncData} {k : Nat} (F : Fun K "goes_out" "goes_out" sGoes f fd) (ms : mg "sum" = none) : FnOk P w K mg base CX0 (k + 1) f fd ["pipes", "name"] spGoes := by
  refine F.ok scGoes (fun vs H Q E h => ?_) (fun cdv A outer s H vs Q E hr h => ?_)
  · obtain ⟨a, Pp, z, rfl, _⟩ := h
    rfl
  · obtain ⟨a, Pp, z, rfl, hA, nd, hl, q⟩ := h
    refine ⟨_, pss_one (ps_ret (pe_callB (cr_sum rfl) (by rfl) ms (by decide +kernel) (pa_cons (pe_lock (pe_lc (own := [("pair", 2)]) (g := gName 2) (tt := tTest (tOp rEq (tOp (rIxT K) (tVar 2) (tC (.int 0))) (tVar 1))) rfl scGoes.nd (pi_keys (pv 0))
      (blkOk_by (N := ["pipes", "name", "pair"]) (sc := defScope sGoes) (by decide +kernel)) (fun _ _ _ _ _ => pg_name (i := 2) scGoes.nd rfl (Or.inl rfl))
      (fun _ _ _ _ _ => pts_one (pt_cmpR op_eq (pe_ix ix_tup (pv 2) pe_int (fun _ _ => rfl)) (pv 1) (nomark _))) (fun _ _ _ _ _ => pe_dget (hu_of hr) (pv 0) (pv 2) (fun _ _ => rfl)))) pa_nil))), ?_⟩
    refine ⟨a, _, hA, trivial, fun od => ?_⟩
    refine ⟨.ref a, rfl, a, od, rfl, .inr ⟨_, upd_same, fun D nD => ?_⟩⟩
    have hD0 : D ≠ a := fun e => by subst e; rw [upd_same] at nD; cases nD
    refine lc_it (n := (pt Pp).length) walk_keysT (fun i H1 => H1 D = some (.lst ((((Pp.take i).filter fun p => decide (p.1.1 = z)).map (·.2)).map V.int)) ∧ Same (upd H a (.frz od (.dT (pt Pp)))) H1) ⟨upd_same, same_new nD⟩ (fun i H1 _ h => h.2 a _ upd_same) ?_ ?_
    · rintro i x H1 H2 hi ⟨hD, sm⟩ ⟨rfl, kk, v, qq, hkv, rfl, hq⟩
      obtain ⟨p, hp, rfl, rfl⟩ := pt_at hkv
      have hm : p ∈ Pp := List.mem_of_getElem? hp
      refine ⟨rfl, .ref qq, rfl, qq, _, 0, .str p.1.1, rfl, rfl, SqT.of hq, atI_nat (j := 0) rfl, .str z, rfl, rfl, _, rfl, ?_⟩
      rw [decStr]
      have ln : ∀ l : Pi, l.length ≤ 200 → (((l.filter fun p => decide (p.1.1 = z)).map (·.2)).map V.int).length < sizeLine := fun l h => by
        rw [List.length_map, List.length_map]
        exact small1000 (Nat.le_trans (List.length_filter_le _ _) (by omega))
      refine ite2 (fun e => ?_) (fun e => ?_)
      · refine ⟨.ref a, rfl, .ref qq, rfl, a, .int p.2, rfl, .inr ⟨_, Rl.pk p.1, qq, .inr ⟨od, sm a _ upd_same⟩, rfl, hq, ?_⟩, _, hD, ln _ (by rw [List.length_take]; omega), ?_, ?_⟩
        · rw [valV_pt, getP_of_mem nd (show (p.1, p.2) ∈ Pp from hm)]; rfl
        · rw [upd_same, List.take_add_one, hp, List.filter_append]
          show _ = some (HO.lst (((_ ++ List.filter _ [p]).map _).map _))
          rw [List.filter_cons, if_pos e]
          simp
        · exact fun b o eb => by
            have nb : b ≠ D := ne_of_none eb nD
            rw [upd_ne nb]; exact sm b o eb
      · refine ⟨?_, sm⟩
        rw [hD, List.take_add_one, hp, List.filter_append]
        show _ = some (HO.lst (((_ ++ List.filter _ [p]).map _).map _))
        rw [List.filter_cons, if_neg e]
        simp
    · rintro H1 ⟨hD, sm⟩
      obtain ⟨l1, l2⟩ := same_lock hA sm
      refine ⟨l1, D, _, rfl, SqL.of (by rw [upd_ne hD0]; exact hD), ?_⟩
      rw [List.take_of_length_le (by unfold pt; rw [List.length_map]; exact Nat.le_refl _)]
      exact q _ l2
end
end Nl
end
section
namespace Nl
open PySem PySem.Spec PyProof.Rows L2 Nt
section
variable {P : Program} {w : World} {K : PySem.W.Frag} {mg : Str → Option Value} {base : Heap}
theorem scComes : FnScope ["pipes", "name", "pair"] ["pipes", "name"] (defScope sComes) := ⟨rfl, rfl, rfl, by decide +kernel, rfl, by decide +kernel, by decide +kernel⟩
theorem ok_comes {f : Addr} {fd : FuncData} {k : Nat} (F : Fun K "comes_in" "comes_in" sComes f fd) (ms : mg "sum" = none) : FnOk P w K mg base CX0 (k + 1) f fd ["pipes", "name"] spComes := by
  refine F.ok scComes (fun vs H Q E h => ?_) (fun cdv A outer s H vs Q E hr h => ?_)
  · obtain ⟨a, Pp, z, rfl, _⟩ := h
    rfl
  · obtain ⟨a, Pp, z, rfl, hA, nd, hl, q⟩ := h
    refine ⟨_, pss_one (ps_ret (pe_callB (cr_sum rfl) (by rfl) ms (by decide +kernel) (pa_cons (pe_lock (pe_lc (own := [("pair", 2)]) (g := gName 2) (tt := tTest (tOp rEq (tOp (rIxT K) (tVar 2) (tC (.int 1))) (tVar 1))) rfl scComes.nd (pi_keys (pv 0))
      (blkOk_by (N := ["pipes", "name", "pair"]) (sc := defScope sComes) (by decide +kernel)) (fun _ _ _ _ _ => pg_name (i := 2) scComes.nd rfl (Or.inl rfl))
      (fun _ _ _ _ _ => pts_one (pt_cmpR op_eq (pe_ix ix_tup (pv 2) pe_int (fun _ _ => rfl)) (pv 1) (nomark _))) (fun _ _ _ _ _ => pe_dget (hu_of hr) (pv 0) (pv 2) (fun _ _ => rfl)))) pa_nil))), ?_⟩
    refine ⟨a, _, hA, trivial, fun od => ?_⟩
    refine ⟨.ref a, rfl, a, od, rfl, .inr ⟨_, upd_same, fun D nD => ?_⟩⟩
    have hD0 : D ≠ a := fun e => by subst e; rw [upd_same] at nD; cases nD
    refine lc_it (n := (pt Pp).length) walk_keysT (fun i H1 => H1 D = some (.lst ((((Pp.take i).filter fun p => decide (p.1.2 = z)).map (·.2)).map V.int)) ∧ Same (upd H a (.frz od (.dT (pt Pp)))) H1) ⟨upd_same, same_new nD⟩ (fun i H1 _ h => h.2 a _ upd_same) ?_ ?_
    · rintro i x H1 H2 hi ⟨hD, sm⟩ ⟨rfl, kk, v, qq, hkv, rfl, hq⟩
      obtain ⟨p, hp, rfl, rfl⟩ := pt_at hkv
      have hm : p ∈ Pp := List.mem_of_getElem? hp
      refine ⟨rfl, .ref qq, rfl, qq, _, 1, .str p.1.2, rfl, rfl, SqT.of hq, atI_nat (j := 1) rfl, .str z, rfl, rfl, _, rfl, ?_⟩
      rw [decStr]
      have ln : ∀ l : Pi, l.length ≤ 200 → (((l.filter fun p => decide (p.1.2 = z)).map (·.2)).map V.int).length < sizeLine := fun l h => by
        rw [List.length_map, List.length_map]
        exact small1000 (Nat.le_trans (List.length_filter_le _ _) (by omega))
      refine ite2 (fun e => ?_) (fun e => ?_)
      · refine ⟨.ref a, rfl, .ref qq, rfl, a, .int p.2, rfl, .inr ⟨_, Rl.pk p.1, qq, .inr ⟨od, sm a _ upd_same⟩, rfl, hq, ?_⟩, _, hD, ln _ (by rw [List.length_take]; omega), ?_, ?_⟩
        · rw [valV_pt, getP_of_mem nd (show (p.1, p.2) ∈ Pp from hm)]; rfl
        · rw [upd_same, List.take_add_one, hp, List.filter_append]
          show _ = some (HO.lst (((_ ++ List.filter _ [p]).map _).map _))
          rw [List.filter_cons, if_pos e]
          simp
        · exact fun b o eb => by
            have nb : b ≠ D := ne_of_none eb nD
            rw [upd_ne nb]; exact sm b o eb
      · refine ⟨?_, sm⟩
        rw [hD, List.take_add_one, hp, List.filter_append]
        show _ = some (HO.lst (((_ ++ List.filter _ [p]).map _).map _))
        rw [List.filter_cons, if_neg e]
        simp
    · rintro H1 ⟨hD, sm⟩
      obtain ⟨l1, l2⟩ := same_lock hA sm
      refine ⟨l1, D, _, rfl, SqL.of (by rw [upd_ne hD0]; exact hD), ?_⟩
      rw [List.take_of_length_le (by unfold pt; rw [List.length_map]; exact Nat.le_refl _)]
      exact q _ l2
end
end Nl
end
section
set_option maxHeartbeats 1000000
namespace Nl
open PySem PySem.Spec PyProof.Rows L2 Nt
theorem inV_strs (y : Str) (l : List Str) : inV (.str y) (l.map V.str) = decide (y ∈ l) := by
  unfold inV
  induction l with
  | nil => rfl
  | cons x r ih =>
    rw [List.map_cons, List.any_cons, ih]
    show ((x == y) || decide (y ∈ r)) = decide (y ∈ x :: r)
    by_cases h : x = y
    · rw [show (x == y) = true from beq_iff_eq.mpr h, decide_eq_true (show y ∈ x :: r by rw [h]; exact List.mem_cons_self)]; rfl
    · rw [show (x == y) = false from beq_eq_false_iff_ne.mpr h]
      by_cases m : y ∈ r
      · rw [decide_eq_true m, decide_eq_true (List.mem_cons_of_mem _ m)]; rfl
      · rw [decide_eq_false m, decide_eq_false (fun z => by
          rcases List.mem_cons.mp z with e | e
          · exact h e.symm
          · exact m e)]; rfl
theorem flat_strs (l : List Str) : (l.map V.str).all flatV = true := by
  rw [List.all_map]; exact List.all_eq_true.mpr fun _ _ => rfl
theorem bk_append (S T : Br) : bk (S ++ T) = bk S ++ bk T := List.map_append
theorem bk_len (S : Br) : (bk S).length = S.length := List.length_map _
theorem bk_at {B : Br} {i : Nat} {k : Key} {v : V} (h : (bk B)[i]? = some (k, v)) : ∃ p, B[i]? = some p ∧ k = Sum.inr p.1 ∧ v = .int p.2 := by
  unfold bk at h
  rw [List.getElem?_map] at h
  cases e : B[i]? with
  | none => rw [e] at h; cases h
  | some p =>
    rw [e] at h
    have := Option.some.inj h
    injection this with h1 h2
    exact ⟨p, rfl, h1.symm, h2.symm⟩
theorem putK_bk {S : Br} {x : Str} {n : Int} (h : x ∉ nms S) : putK (bk S) (Sum.inr x : Key) (.int n) = bk (S ++ [(x, n)]) := by
  rw [putK_new _ (by rw [valV_bk, getB_none h]; rfl), bk_append]; rfl
theorem nms_append (S T : Br) : nms (S ++ T) = nms S ++ nms T := List.map_append
/-- the ponds that soak -/
def soakers (B : Br) (Pp : Pi) (l : Br) : Br := (l.filter fun p => decide (outW Pp p.1 < p.2)).map fun p => (p.1, 0)
theorem soakers_mem {B : Br} {Pp : Pi} {l : Br} {x : Str} : x ∈ nms (soakers B Pp l) ↔ ∃ b, (x, b) ∈ l ∧ outW Pp x < b := by
  unfold nms soakers
  rw [List.map_map, List.mem_map]
  constructor
  · rintro ⟨p, hp, rfl⟩
    obtain ⟨h1, h2⟩ := List.mem_filter.mp hp
    exact ⟨p.2, h1, of_decide_eq_true h2⟩
  · rintro ⟨b, hb, hl⟩
    exact ⟨(x, b), List.mem_filter.mpr ⟨hb, decide_eq_true hl⟩, rfl⟩
theorem soakers_nd {B : Br} {Pp : Pi} {l : Br} (nd : (nms l).Nodup) : (nms (soakers B Pp l)).Nodup := by
  unfold nms soakers
  rw [List.map_map]
  exact List.Nodup.sublist (List.Sublist.map Prod.fst List.filter_sublist) nd
section
variable {P : Program} {w : World} {K : PySem.W.Frag} {mg : Str → Option Value} {base : Heap}
theorem scSteps : FnScope ["brims", "pipes", "steps", "far", "edge", "name", "one", "other"] ["brims", "pipes"] (defScope sSteps) := ⟨rfl, rfl, rfl, by decide +kernel, rfl, by decide +kernel, by decide +kernel⟩
def spSteps : Sp := fun vs H Q _ => ∃ (a b : Addr) (B : Br) (Pp : Pi), vs = [.ref a, .ref b] ∧ H a = some (.dK (bk B)) ∧ H b = some (.dT (pt Pp)) ∧ Wf Nm B Pp ∧
  ∀ (H' : Hp) (p : Addr) (S : Br), Same H H' → H p = none → H' p = some (.dK (bk S)) → (nms S).Nodup → (∀ x, x ∈ nms S ↔ x ∈ nms B ∧ Opn B Pp x) → Q (.ref p) H'
theorem ok_steps {f fG : Addr} {fd fdG : FuncData} (F : Fun K "steps_out" "steps_out" sSteps f fd) (FG : Fun K "goes_out" "goes_out" sGoes fG fdG) (GG : FnOk P w K mg base CX0 1 fG fdG ["pipes", "name"] spGoes) (bG : Binds K fdG ["pipes", "name"] []) (gG : mg "goes_out" = some (.ref fG))
    (ms : mg "sorted" = none) : FnOk P w K mg base CX0 2 f fd ["brims", "pipes"] spSteps := by
  refine F.ok scSteps (fun vs H Q E h => ?_) (fun cdv A outer s H vs Q E hr h => ?_)
  · obtain ⟨a, b, B, Pp, rfl, _⟩ := h
    rfl
  · obtain ⟨a, b, B, Pp, rfl, hA, hB, wf, q⟩ := h
    have hu := hu_of hr
    refine ⟨_, pss_cons (ps_set (i := 2) scSteps.nd rfl (Or.inr rfl) (pe_lock (Rl.pe_dcP (T := .dK []) (own := [("name", 5)]) (g := gName 5) (.inr rfl) hr rfl scSteps.nd (pi_keys (pv 0))
        (blkOk_by (N := ["brims", "pipes", "steps", "far", "edge", "name", "one", "other"]) (sc := defScope sSteps) (by decide +kernel)) (fun _ _ _ _ _ => pg_name (i := 5) scSteps.nd rfl (Or.inl rfl))
        (fun _ _ _ _ _ => pts_one (pt_cmpR op_lt (pe_call GG hr (by rfl) gG FG.kp bG .nil pass0 (pa_cons (pv 1) (pa_cons (pv 5) pa_nil))) (pe_dget hu (pv 0) (pv 5) (fun _ _ => rfl)) (nomark _)))
        (fun _ _ _ _ _ => pv 5) (fun _ _ _ _ _ => pe_int))))
      (pss_cons (ps_set (i := 3) scSteps.nd rfl (Or.inl rfl) pe_int)
      (pss_cons (ps_set (i := 4) scSteps.nd rfl (Or.inr rfl) (pe_callB (call_sortedD rfl) (by rfl) ms (by decide +kernel) (pa_cons (pv 2) pa_nil)))
      (pss_cons (ps_while PassesOwn.never (pt_truth (pv 4) (by intro _; rfl))
        (pss_cons (ps_aug (i := 3) scSteps.nd rfl (.inl rfl) pe_int ip_add)
        (pss_cons (ps_set (i := 4) scSteps.nd rfl (Or.inr rfl) (pe_callB (Rl.call_sortX rfl) (by rfl) ms (by decide +kernel) (pa_cons (pe_lock (Rl.pe_scX (own := [("one", 6), ("other", 7)])
          (g := gTup K 2 (gCons (gName 6) (gCons (gName 7) gNil))) (tt := tAnd (tTest (tOp (rIn K false) (tVar 7) (tVar 4))) (tB (tDNotIn (tVar 6) (tVar 2)))) rfl scSteps.nd (pi_keys (pv 1))
          (blkOk_by (N := ["brims", "pipes", "steps", "far", "edge", "name", "one", "other"]) (sc := defScope sSteps) (by decide +kernel))
          (fun _ _ _ _ _ => pg_tup rfl (pgs_cons (pg_name (i := 6) scSteps.nd rfl (Or.inl rfl)) (pgs_cons (pg_name (i := 7) scSteps.nd rfl (Or.inl rfl)) pgs_nil)))
          (fun _ _ _ _ _ => pts_one (PW.pt (pw_and (pt_cmpR op_in_seq (pv 7) (pv 4) (by rfl)) (pw_and1 (pt_cmp (pc_dnotin hu (pv 6) (pv 2)))))))
          (fun _ _ _ _ _ => pv 6))) pa_nil)))
        (pss_one (ps_for PassesOwn.never rfl (pi_list (pv 4)) (pg_name (i := 5) scSteps.nd rfl (Or.inl rfl)) (pss_one (ps_dput hu (pv 2) (pv 5) (pv 3) rfl)))))))
      (pss_one (ps_ret (pv 2)))))), ?_⟩
    -- steps = {..}
    refine ⟨a, _, hA, trivial, fun od => ?_⟩
    refine ⟨.ref a, rfl, a, od, rfl, .inl ⟨_, upd_same, fun D nD => ?_⟩⟩
    have hDa : D ≠ a := fun e => by subst e; rw [upd_same] at nD; cases nD
    have nDH : H D = none := by rw [upd_ne hDa] at nD; exact nD
    have hba : b ≠ a := fun e => by subst e; rw [hA] at hB; cases hB
    refine Rl.gc_it (n := (bk B).length) (b0 := fun _ => .dK []) walk_keys (fun i H1 => H1 D = some (.dK (bk (soakers B Pp (B.take i)))) ∧ Same (upd H a (.frz od (.dK (bk B)))) H1) ⟨upd_same, same_new nD⟩ (fun i H1 _ h => h.2 a _ upd_same) ?_ ?_
    · rintro i x H1 H1' hi ⟨hD, sm⟩ ⟨rfl, kk, v, hkv, rfl⟩
      obtain ⟨p, hp, rfl, rfl⟩ := bk_at hkv
      have hm : p ∈ B := List.mem_of_getElem? hp
      have hB1 : H1' b = some (.dT (pt Pp)) := sm b _ (by rw [upd_ne hba]; exact hB)
      refine ⟨rfl, .ref b, rfl, .str p.1, rfl, b, Pp, p.1, rfl, hB1, wf.np, wf.lp, fun H2 s2 => ?_⟩
      refine ⟨.ref a, rfl, .str p.1, rfl, a, .int p.2, rfl, .inl ⟨_, Sum.inr p.1, .inr ⟨od, s2 a _ (sm a _ upd_same)⟩, rfl, ?_⟩, _, _, rfl, rfl, _, rfl, ?_⟩
      · rw [valV_bk, getB_of_mem wf.nb hm]; rfl
      · have il : i < B.length := (List.getElem?_eq_some_iff.mp hp).1
        have ndT : (nms (B.take i)).Nodup := List.Nodup.sublist (List.Sublist.map Prod.fst (List.take_sublist i B)) wf.nb
        have fresh : p.1 ∉ nms (B.take i) := by
          intro z
          have h2 : (nms (B.take (i + 1))).Nodup := List.Nodup.sublist (List.Sublist.map Prod.fst (List.take_sublist (i + 1) B)) wf.nb
          rw [List.take_add_one, hp] at h2
          have h3 : (nms (B.take i) ++ [p.1]).Nodup := by
            have := nms_append (B.take i) [p]
            rw [show (some p).toList = [p] from rfl, this] at h2
            exact h2
          rw [List.nodup_append] at h3
          exact h3.2.2 p.1 z p.1 (List.mem_singleton.mpr rfl) rfl
        refine ite2 (fun e => ?_) (fun e => ?_)
        · have e' : outW Pp p.1 < p.2 := of_decide_eq_true e
          have ns : p.1 ∉ nms (soakers B Pp (B.take i)) := fun z => by
            obtain ⟨c, hc, _⟩ := soakers_mem.mp z
            exact fresh (List.mem_map.mpr ⟨_, hc, rfl⟩)
          refine ⟨.str p.1, rfl, _, DPut.k (k := Sum.inr p.1) (s2 D _ hD) ?_, ?_, ?_⟩
          · rw [bk_len]
            refine small1000 (Nat.le_trans (?_ : _ ≤ B.length) (by have := wf.lb; omega))
            unfold soakers
            rw [List.length_map]
            refine Nat.le_trans (List.length_filter_le _ _) ?_
            rw [List.length_take]; omega
          · rw [upd_same, putK_bk ns, List.take_add_one, hp]
            unfold soakers
            rw [List.filter_append, List.map_append]
            show some (HO.dK (bk (_ ++ [(p.1, 0)]))) = some (HO.dK (bk (_ ++ List.map _ (List.filter _ [p]))))
            rw [List.filter_cons, if_pos (decide_eq_true e')]
            rfl
          · exact fun c o ec => by
              have nb : c ≠ D := ne_of_none ec nD
              rw [upd_ne nb]; exact s2 c o (sm c o ec)
        · refine ⟨?_, sm.trans s2⟩
          rw [s2 D _ hD, List.take_add_one, hp]
          unfold soakers
          rw [List.filter_append, List.map_append]
          show _ = some (HO.dK (bk (_ ++ List.map _ (List.filter _ [p]))))
          have e' : ¬ (decide (outW Pp p.1 < p.2) = true) := e
          rw [List.filter_cons, if_neg e']
          simp
    · rintro H1 ⟨hD, sm⟩
      obtain ⟨l1, sH⟩ := same_lock hA sm
      refine ⟨l1, ?_⟩
      rw [bk_len, List.take_length] at hD
      have hD2 : (upd H1 a (.dK (bk B))) D = some (.dK (bk (soakers B Pp B))) := by rw [upd_ne hDa]; exact hD
      obtain ⟨H2, hH2⟩ : ∃ H2, H2 = upd H1 a (.dK (bk B)) := ⟨_, rfl⟩
      rw [← hH2] at hD2 sH ⊢
      -- edge = sorted(steps)
      refine ⟨.ref D, rfl, D, _, nms (soakers B Pp B), rfl, .inl hD2, ?_, ?_, fun ys e0 pm _ ne0 => ?_⟩
      · unfold bk nms
        rw [List.map_map, List.map_map]; rfl
      · have h1 := len_le_of_sub (soakers_nd (B := B) (Pp := Pp) wf.nb) (m := nms B) (fun x hx => by
          obtain ⟨c, hc, _⟩ := soakers_mem.mp hx
          exact List.mem_map.mpr ⟨_, hc, rfl⟩)
        have h2 : (nms B).length = B.length := List.length_map _
        have := wf.lb
        omega
      have e0D : e0 ≠ D := Ne.symm (ne_of_none hD2 ne0)
      have bfs0 : Bfs B Pp (nms (soakers B Pp B)) ys :=
        ⟨soakers_nd wf.nb, fun x hx => by
            obtain ⟨c, hc, hl⟩ := soakers_mem.mp hx
            exact ⟨List.mem_map.mpr ⟨_, hc, rfl⟩, .soak hc hl⟩,
          fun x hx => pm.mem_iff.mp hx, fun x c hc hl => soakers_mem.mpr ⟨c, hc, hl⟩, fun x y w m hy => .inr (pm.mem_iff.mpr hy)⟩
      have lenS : ∀ {S E : Br} {E2 : List Str}, Bfs B Pp (nms S) E2 → S.length ≤ 12 := fun {S E E2} h => by
        have h1 := len_le_of_sub h.nd (m := nms B) (fun x hx => (h.sub x hx).1)
        have h2 : (nms B).length = B.length := List.length_map _
        have h3 : (nms S).length = S.length := List.length_map _
        have := wf.lb
        omega
      refine ⟨fun m σ H3 => ∃ (S : Br) (E2 : List Str) (far : Int) (e : Addr) (y5 y6 y7 : Option V), σ = [some (.ref a), some (.ref b), some (.ref D), some (.int far), some (.ref e), y5, y6, y7] ∧ Same H H3 ∧ H3 D = some (.dK (bk S)) ∧
        H3 e = some (.lst (E2.map V.str)) ∧ Bfs B Pp (nms S) E2 ∧ m = 2 * (12 - S.length) + (if E2 = [] then 0 else 1),
        ⟨_, soakers B Pp B, ys, 0, e0, none, none, none, rfl, sH.trans (same_new ne0), by rw [upd_ne (Ne.symm e0D)]; exact hD2, upd_same, bfs0, rfl⟩, ?_⟩
      rintro m σ H3 ⟨S, E2, far, e, y5, y6, y7, rfl, sm3, hD3, he3, bfs, rfl⟩
      have hlS : S.length ≤ 12 := lenS (E := []) bfs
      refine ⟨.ref e, rfl, !(E2.map V.str).isEmpty, .inl ⟨_, SqL.of he3, rfl⟩, ite2 (fun c => ?_) (fun c => ?_)⟩
      · have ne : E2 ≠ [] := fun z => by subst z; exact absurd c (by decide)
        refine ⟨fun σ' H' => ∃ m', m' < 2 * (12 - S.length) + (if E2 = [] then 0 else 1) ∧ ∃ (S : Br) (E2 : List Str) (far : Int) (e : Addr) (y5 y6 y7 : Option V), σ' = [some (.ref a), some (.ref b), some (.ref D), some (.int far), some (.ref e), y5, y6, y7] ∧ Same H H' ∧ H' D = some (.dK (bk S)) ∧
          H' e = some (.lst (E2.map V.str)) ∧ Bfs B Pp (nms S) E2 ∧ m' = 2 * (12 - S.length) + (if E2 = [] then 0 else 1), fun σ' H' h => h, ?_⟩
        -- far += 1
        refine ⟨.int far, rfl, far, 1, rfl, rfl, ?_⟩
        -- edge = sorted({..})
        have hB3 : H3 b = some (.dT (pt Pp)) := sm3 b _ hB
        refine ⟨b, _, hB3, trivial, fun od2 => ?_⟩
        refine ⟨.ref b, rfl, b, od2, rfl, .inr ⟨_, upd_same, fun D2 nD2 => ?_⟩⟩
        have hDb : D ≠ b := fun z => by subst z; rw [hD3] at hB3; cases hB3
        have heb : e ≠ b := fun z => by subst z; rw [he3] at hB3; cases hB3
        have hD2b : D2 ≠ b := fun z => by subst z; rw [upd_same] at nD2; cases nD2
        refine Rl.gc_it (n := (pt Pp).length) (b0 := fun D => Rl.SetX P w D []) walk_keysT (fun i H4 => ∃ l : List Str, H4 D2 = some (Rl.SetX P w D2 l) ∧ l.Nodup ∧
          (∀ x, x ∈ l ↔ (∃ y w, ((x, y), w) ∈ Pp.take i ∧ y ∈ E2) ∧ x ∉ nms S) ∧ Same (upd H3 b (.frz od2 (.dT (pt Pp)))) H4) ⟨[], upd_same, List.nodup_nil, fun x => ⟨fun h => (List.not_mem_nil h).elim, fun ⟨⟨y, w, h, _⟩, _⟩ => (List.not_mem_nil h).elim⟩, same_new nD2⟩
          (fun i H4 _ ⟨_, _, _, _, h⟩ => h b _ upd_same) ?_ ?_
        · rintro i x H4 H4' hi ⟨l, hl, ndl, ml, sm4⟩ ⟨rfl, kk, v, qq, hkv, rfl, hq⟩
          obtain ⟨p, hp, rfl, rfl⟩ := pt_at hkv
          have hm : p ∈ Pp := List.mem_of_getElem? hp
          have he4 : H4' e = some (.lst (E2.map V.str)) := sm4 e _ (by rw [upd_ne heb]; exact he3)
          have hD4 : H4' D = some (.dK (bk S)) := sm4 D _ (by rw [upd_ne hDb]; exact hD3)
          have lN : l.length ≤ 12 := by
            have h1 := len_le_of_sub ndl (m := nms B) (fun z hz => by
              obtain ⟨⟨y, w, h, _⟩, _⟩ := (ml z).mp hz
              exact (wf.rp _ (List.mem_of_mem_take h)).1)
            have h2 : (nms B).length = B.length := List.length_map _
            have := wf.lb
            omega
          have tk : Pp.take (i + 1) = Pp.take i ++ [p] := by rw [List.take_add_one, hp]; rfl
          refine ⟨qq, [.str p.1.1, .str p.1.2], rfl, SqT.of hq, rfl, .str p.1.1, [.str p.1.2], rfl, .str p.1.2, [], rfl, rfl, rfl, ?_⟩
          refine ⟨.str p.1.2, rfl, .ref e, rfl, e, E2.map V.str, rfl, .inl (SqL.of he4), rfl, flat_strs _, inV (.str p.1.2) (E2.map V.str), rfl, ?_⟩
          rw [inV_strs]
          have skip : ¬ (p.1.2 ∈ E2 ∧ p.1.1 ∉ nms S) → ∀ x, x ∈ l ↔ (∃ y w, ((x, y), w) ∈ Pp.take (i + 1) ∧ y ∈ E2) ∧ x ∉ nms S := by
            intro no x
            rw [ml x, tk]
            refine ⟨fun ⟨⟨y, w, h, hy⟩, n⟩ => ⟨⟨y, w, List.mem_append_left _ h, hy⟩, n⟩, fun ⟨⟨y, w, h, hy⟩, n⟩ => ?_⟩
            rcases List.mem_append.mp h with h | h
            · exact ⟨⟨y, w, h, hy⟩, n⟩
            · have h' : ((x, y), w) = p := by simpa using h
              exact absurd (show p.1.2 ∈ E2 ∧ p.1.1 ∉ nms S by rw [← h']; exact ⟨hy, n⟩) no
          refine ite2 (fun c1 => ?_) (fun c1 => ?_)
          · have c1' := of_decide_eq_true c1
            refine ⟨.str p.1.1, rfl, .ref D, rfl, D, _, rfl, .inl ⟨_, Sum.inr p.1.1, .inl hD4, rfl, rfl⟩, _, rfl, ?_⟩
            rw [valV_bk, getB_isSome]
            refine ite2 (fun c2 => ?_) (fun c2 => ?_)
            · have c2' : p.1.1 ∉ nms S := fun z => by rw [decide_eq_true z] at c2; cases c2
              refine ⟨.str p.1.1, rfl, p.1.1, l, rfl, hl, Nat.lt_of_le_of_lt (Nat.succ_le_succ lN) (by decide), _, upd_same, ?_, fun x => ?_, ?_⟩
              · split
                · exact ndl
                · exact List.nodup_cons.mpr ⟨by assumption, ndl⟩
              · have mem : x ∈ (if p.1.1 ∈ l then l else p.1.1 :: l) ↔ x = p.1.1 ∨ x ∈ l := by
                  split
                  · rename_i h
                    exact ⟨.inr, fun z => z.elim (fun e => e ▸ h) id⟩
                  · exact List.mem_cons
                rw [mem, ml x, tk]
                constructor
                · rintro (rfl | ⟨⟨y, w, h, hy⟩, n⟩)
                  · exact ⟨⟨p.1.2, p.2, List.mem_append_right _ (List.mem_singleton.mpr rfl), c1'⟩, c2'⟩
                  · exact ⟨⟨y, w, List.mem_append_left _ h, hy⟩, n⟩
                · rintro ⟨⟨y, w, h, hy⟩, n⟩
                  rcases List.mem_append.mp h with h | h
                  · exact .inr ⟨⟨y, w, h, hy⟩, n⟩
                  · have h' : ((x, y), w) = p := by simpa using h
                    exact .inl (by rw [← h'])
              · exact fun c o ec => by
                  have nb : c ≠ D2 := ne_of_none ec nD2
                  rw [upd_ne nb]; exact sm4 c o ec
            · refine ⟨l, hl, ndl, skip fun ⟨_, z⟩ => c2 (by rw [decide_eq_false z]; rfl), sm4⟩
          · exact iteF ⟨l, hl, ndl, skip fun ⟨z, _⟩ => c1 (decide_eq_true z), sm4⟩
        · rintro H4 ⟨l, hl, ndl, ml, sm4⟩
          obtain ⟨l1, s34⟩ := same_lock hB3 sm4
          refine ⟨l1, ?_⟩
          rw [show (pt Pp).length = Pp.length from List.length_map _, List.take_length] at ml
          have hl2 : (upd H4 b (.dT (pt Pp))) D2 = some (Rl.SetX P w D2 l) := by rw [upd_ne hD2b]; exact hl
          obtain ⟨H5, hH5⟩ : ∃ H5, H5 = upd H4 b (.dT (pt Pp)) := ⟨_, rfl⟩
          rw [← hH5] at hl2 s34 ⊢
          have lN : l.length ≤ 12 := by
            have h1 := len_le_of_sub ndl (m := nms B) (fun z hz => by
              obtain ⟨⟨y, w, h, _⟩, _⟩ := (ml z).mp hz
              exact (wf.rp _ h).1)
            have h2 : (nms B).length = B.length := List.length_map _
            have := wf.lb
            omega
          refine ⟨D2, l, rfl, hl2, by omega, fun ys2 e2 pm2 _ ne2 => ?_⟩
          have ndy : ys2.Nodup := pm2.nodup_iff.mpr ndl
          have hD5 : H5 D = some (.dK (bk S)) := s34 D _ hD3
          have e2D : e2 ≠ D := Ne.symm (ne_of_none hD5 ne2)
          have nb := bfs.next wf ndy (fun x => by rw [pm2.mem_iff]; exact ml x)
          have nD3 : ∀ x ∈ ys2, x ∉ nms S := fun x hx => ((ml x).mp (pm2.mem_iff.mp hx)).2
          -- for name in edge: steps[name] = far
          refine ⟨.ref e2, rfl, e2, rfl, ⟨_, SqL.of upd_same⟩, ?_⟩
          refine for_it (walk_list (K := K) (a := e2) (xs := ys2.map V.str)) (fun i σ H6 => ∃ y5 : Option V, σ = [some (.ref a), some (.ref b), some (.ref D), some (.int (far + 1)), some (.ref e2), y5, y6, y7] ∧ Same H H6 ∧
            H6 D = some (.dK (bk (S ++ (ys2.take i).map fun x => (x, far + 1)))) ∧ H6 e2 = some (.lst (ys2.map V.str))) ⟨y5, rfl, sm3.trans (s34.trans (same_new ne2)), ?_, upd_same⟩ (fun i σ H6 _ ⟨_, _, _, _, h⟩ => SqL.of h) ?_ ?_
          · rw [upd_ne (Ne.symm e2D)]
            show _ = some (HO.dK (bk (S ++ [])))
            rw [List.append_nil]; exact hD5
          · rintro i x σ H6 H6' hi ⟨y5', rfl, sm6, hD6, he6⟩ ⟨rfl, hx⟩
            rw [List.getElem?_map] at hx
            cases hy : ys2[i]? with
            | none => rw [hy] at hx; cases hx
            | some z =>
              rw [hy] at hx
              have hx' : V.str z = x := Option.some.inj hx
              subst hx'
              have fr : z ∉ nms (S ++ (ys2.take i).map fun x => (x, far + 1)) := by
                rw [nms_append]
                intro m
                rcases List.mem_append.mp m with m | m
                · exact nD3 z (List.mem_of_getElem? hy) m
                · unfold nms at m
                  rw [List.map_map] at m
                  have m' : z ∈ ys2.take i := by
                    obtain ⟨u, hu, eu⟩ := List.mem_map.mp m
                    have eu' : u = z := eu
                    rw [← eu']; exact hu
                  have h2 : (ys2.take (i + 1)).Nodup := List.Nodup.sublist (List.take_sublist _ _) ndy
                  rw [List.take_add_one, hy, List.nodup_append] at h2
                  exact h2.2.2 z m' z (List.mem_singleton.mpr rfl) rfl
              refine ⟨.int (far + 1), rfl, .ref D, rfl, .str z, rfl, D, _, rfl, DPut.k (k := Sum.inr z) hD6 ?_, ?_⟩
              · rw [bk_len, List.length_append, List.length_map, List.length_take]
                have := pm2.length_eq
                exact small1000 (by omega)
              · refine ⟨_, rfl, fun c o ec => ?_, ?_, ?_⟩
                · have nc : c ≠ D := ne_of_none ec nDH
                  rw [upd_ne nc]; exact sm6 c o ec
                · rw [upd_same, putK_bk fr, List.take_add_one, hy, List.map_append, List.append_assoc]; rfl
                · rw [upd_ne e2D]; exact he6
          · rintro σ H6 ⟨y5', rfl, sm6, hD6, he6⟩
            rw [List.length_map, List.take_length] at hD6
            have nbS : Bfs B Pp (nms (S ++ ys2.map fun x => (x, far + 1))) ys2 := by
              have e1 : nms (S ++ ys2.map fun x => (x, far + 1)) = nms S ++ ys2 := by
                rw [nms_append]
                unfold nms
                rw [List.map_map]
                congr 1
                exact List.map_id' ys2
              rw [e1]; exact nb
            refine ⟨_, ?_, S ++ ys2.map (fun x => (x, far + 1)), ys2, far + 1, e2, y5', y6, y7, rfl, sm6, hD6, he6, nbS, rfl⟩
            have hl3 := lenS (E := []) nbS
            rw [List.length_append, List.length_map] at hl3 ⊢
            rw [if_neg ne]
            by_cases z : ys2 = []
            · rw [if_pos z, z]
              show 2 * (12 - (S.length + 0)) + 0 < _
              omega
            · rw [if_neg z]
              have : 0 < ys2.length := List.length_pos_iff.mpr z
              omega
      · have z : E2 = [] := by
          cases E2 with
          | nil => rfl
          | cons x r => exact absurd rfl c
        subst z
        refine ⟨.ref D, rfl, q H3 D S sm3 nDH hD3 bfs.nd fun x => ⟨bfs.sub x, fun ⟨_, o⟩ => bfs.done (nm := Nm) o⟩⟩
end
end Nl
end
section
set_option maxHeartbeats 1000000
namespace Nl
open PySem PySem.Spec PyProof.Rows L2 Nt
section
variable {P : Program} {w : World} {K : PySem.W.Frag} {mg : Str → Option Value} {base : Heap}
theorem scCkPonds : FnScope ["brims", "name"] ["brims"] (defScope sCkPonds) := ⟨rfl, rfl, rfl, by decide +kernel, rfl, by decide +kernel, by decide +kernel⟩
def spCkPonds : Sp := fun vs H Q _ => ∃ (a : Addr) (B : Br) (Pp : Pi), vs = [.ref a] ∧ H a = some (.dK (bk B)) ∧ Wf Nm B Pp ∧ ∀ H', Same H H' → Q .non H'
theorem ok_ckPonds {f fN fM : Addr} {fd fdN fdM : FuncData} {tm : Tok} (F : Fun K "check_ponds" "check_ponds" sCkPonds f fd) (FN : Fun K "is_name" "is_name" sName fN fdN) (GN : FnOk P w K mg base CX0 1 fN fdN ["thing"] spName) (bN : Binds K fdN ["thing"] []) (gN : mg "is_name" = some (.ref fN))
    (FM : Fun K "is_measure" "is_measure" sMeas fM fdM) (GM : FnOk P w K mg base CX0 2 fM fdM ["thing"] spMeas) (bM : Binds K fdM ["thing"] []) (gM : mg "is_measure" = some (.ref fM)) (ml : mg "len" = none) (gP : mg "MOST_PONDS" = some (.int 12 tm)) :
    FnOk P w K mg base CX0 3 f fd ["brims"] spCkPonds := by
  refine F.ok scCkPonds (fun vs H Q E h => ?_) (fun cdv A outer s H vs Q E hr h => ?_)
  · obtain ⟨a, B, Pp, rfl, _⟩ := h
    rfl
  · obtain ⟨a, B, Pp, rfl, hA, wf, q⟩ := h
    have hr1 := hr.mono (show 1 ≤ 2 by decide)
    refine ⟨_, pss_cons (ps_lock (ps_for PassesOwn.never rfl (pi_keys (pv 0)) (pg_name (i := 1) scCkPonds.nd rfl (.inl rfl)) (pss_one (ps_if (pt_not (pt_val (pe_call GN hr1 (by rfl) gN FN.kp bN .nil pass0 (pa_cons (pv 1) pa_nil)))) (pss_one ps_never) pss_nil))))
      (pss_cons (ps_if (pt_cmpR op_gt (pe_callB call_lenD (by rfl) ml PySem.boot_len (pa_cons (pv 0) pa_nil)) (pe_glob (v := .int 12) rfl gP ⟨_, rfl⟩) (nomark _)) (pss_one ps_never) pss_nil)
      (pss_one (ps_lock (ps_for PassesOwn.never rfl (pi_keys (pv 0)) (pg_name (i := 1) scCkPonds.nd rfl (.inl rfl)) (pss_one (ps_if (pt_not (pt_val (pe_call GM hr (by rfl) gM FM.kp bM .nil pass0 (pa_cons (pe_dget (hu_of hr) (pv 0) (pv 1) (fun _ _ => rfl)) pa_nil)))) (pss_one ps_never) pss_nil)))))), ?_⟩
    refine ⟨a, _, hA, trivial, fun od => ?_⟩
    refine ⟨.ref a, rfl, a, od, rfl, .inl ⟨_, upd_same, ?_⟩⟩
    refine for_it (n := (bk B).length) walk_keys (fun i σ H1 => ∃ y : Option V, σ = [some (.ref a), y] ∧ Same (upd H a (.frz od (.dK (bk B)))) H1) ⟨none, rfl, Same.refl _⟩ (fun i σ H1 _ ⟨_, _, h⟩ => h a _ upd_same) ?_ ?_
    · rintro i x σ H1 H1' hi ⟨y, rfl, sm⟩ ⟨rfl, kk, v, hkv, rfl⟩
      obtain ⟨p, hp, rfl, rfl⟩ := bk_at hkv
      have hn := (wf.rb p (List.mem_of_getElem? hp)).1
      refine ⟨.str p.1, rfl, p.1, rfl, hn.sm.mono (by decide), fun H2 s2 => ?_⟩
      rw [show nameB p.1 = true from hn]
      exact ⟨true, rfl, iteF ⟨_, rfl, sm.trans s2⟩⟩
    · rintro σ H1 ⟨y, rfl, sm⟩
      obtain ⟨l1, s1⟩ := same_lock hA sm
      refine ⟨l1, ?_⟩
      have hA1 := s1 a _ hA
      obtain ⟨H2, hH2⟩ : ∃ H2, H2 = upd H1 a (.dK (bk B)) := ⟨_, rfl⟩
      rw [← hH2] at hA1 s1 ⊢
      refine ⟨.ref a, rfl, a, _, rfl, hA1, _, _, rfl, rfl, _, rfl, ?_⟩
      rw [bk_len, decide_eq_false (show ¬ ((B.length : Int) > 12) by have := wf.lb; omega)]
      refine iteF ?_
      refine ⟨a, _, hA1, trivial, fun od2 => ?_⟩
      refine ⟨.ref a, rfl, a, od2, rfl, .inl ⟨_, upd_same, ?_⟩⟩
      refine for_it (n := (bk B).length) walk_keys (fun i σ H3 => ∃ y : Option V, σ = [some (.ref a), y] ∧ Same (upd H2 a (.frz od2 (.dK (bk B)))) H3) ⟨y, rfl, Same.refl _⟩ (fun i σ H3 _ ⟨_, _, h⟩ => h a _ upd_same) ?_ ?_
      · rintro i x σ H3 H3' hi ⟨y, rfl, sm3⟩ ⟨rfl, kk, v, hkv, rfl⟩
        obtain ⟨p, hp, rfl, rfl⟩ := bk_at hkv
        have hm := List.mem_of_getElem? hp
        obtain ⟨_, b1, b2⟩ := wf.rb p hm
        refine ⟨.ref a, rfl, .str p.1, rfl, a, .int p.2, rfl, .inl ⟨_, Sum.inr p.1, .inr ⟨od2, sm3 a _ upd_same⟩, rfl, ?_⟩, p.2, rfl, b1, b2, true, rfl, iteF ⟨_, rfl, sm3⟩⟩
        rw [valV_bk, getB_of_mem wf.nb hm]; rfl
      · rintro σ H3 ⟨y, rfl, sm3⟩
        obtain ⟨l3, s3⟩ := same_lock hA1 sm3
        exact ⟨l3, q _ (s1.trans s3)⟩
theorem scCkPipes : FnScope ["brims", "pipes", "pair"] ["brims", "pipes"] (defScope sCkPipes) := ⟨rfl, rfl, rfl, by decide +kernel, rfl, by decide +kernel, by decide +kernel⟩
def spCk2 (F : Br → Pi → Prop) : Sp := fun vs H Q _ => ∃ (a b : Addr) (B : Br) (Pp : Pi), vs = [.ref a, .ref b] ∧ H a = some (.dK (bk B)) ∧ H b = some (.dT (pt Pp)) ∧ Wf Nm B Pp ∧ F B Pp ∧ ∀ H', Same H H' → Q .non H'
theorem ok_ckPipes {f fN fM : Addr} {fd fdN fdM : FuncData} (F : Fun K "check_pipes" "check_pipes" sCkPipes f fd) (FN : Fun K "is_pair_of" "is_pair_of" sPairOf fN fdN) (GN : FnOk P w K mg base CX0 3 fN fdN ["brims", "thing"] spPairOf) (bN : Binds K fdN ["brims", "thing"] []) (gN : mg "is_pair_of" = some (.ref fN))
    (FM : Fun K "is_measure" "is_measure" sMeas fM fdM) (GM : FnOk P w K mg base CX0 2 fM fdM ["thing"] spMeas) (bM : Binds K fdM ["thing"] []) (gM : mg "is_measure" = some (.ref fM)) :
    FnOk P w K mg base CX0 4 f fd ["brims", "pipes"] (spCk2 fun _ _ => True) := by
  refine F.ok scCkPipes (fun vs H Q E h => ?_) (fun cdv A outer s H vs Q E hr h => ?_)
  · obtain ⟨a, b, B, Pp, rfl, _⟩ := h
    rfl
  · obtain ⟨a, b, B, Pp, rfl, hA, hB, wf, _, q⟩ := h
    have hr2 := hr.mono (show 2 ≤ 3 by decide)
    refine ⟨_, pss_one (ps_lock (ps_for PassesOwn.never rfl (pi_keys (pv 1)) (pg_name (i := 2) scCkPipes.nd rfl (.inl rfl)) (pss_one (ps_if (PW.pt (pw_or (pt_not (pt_val (pe_call GN hr (by rfl) gN FN.kp bN .nil pass0 (pa_cons (pv 0) (pa_cons (pv 2) pa_nil)))))
      (pw_or1 (pt_not (pt_val (pe_call GM hr2 (by rfl) gM FM.kp bM .nil pass0 (pa_cons (pe_dget (hu_of hr) (pv 1) (pv 2) (fun _ _ => rfl)) pa_nil))))))) (pss_one ps_never) pss_nil)))), ?_⟩
    have hab : a ≠ b := fun z => by subst z; rw [hA] at hB; cases hB
    refine ⟨b, _, hB, trivial, fun od => ?_⟩
    refine ⟨.ref b, rfl, b, od, rfl, .inr ⟨_, upd_same, ?_⟩⟩
    refine for_it (n := (pt Pp).length) walk_keysT (fun i σ H1 => ∃ y : Option V, σ = [some (.ref a), some (.ref b), y] ∧ Same (upd H b (.frz od (.dT (pt Pp)))) H1) ⟨none, rfl, Same.refl _⟩ (fun i σ H1 _ ⟨_, _, h⟩ => h b _ upd_same) ?_ ?_
    · rintro i x σ H1 H1' hi ⟨y, rfl, sm⟩ ⟨rfl, kk, v, qq, hkv, rfl, hq⟩
      obtain ⟨p, hp, rfl, rfl⟩ := pt_at hkv
      have hm := List.mem_of_getElem? hp
      obtain ⟨m1, m2, ne, w1, w2⟩ := wf.rp p hm
      obtain ⟨p1, hp1, e1⟩ := List.mem_map.mp m1
      obtain ⟨p2, hp2, e2⟩ := List.mem_map.mp m2
      have n1 : Nm p.1.1 := by rw [← (show p1.1 = p.1.1 from e1)]; exact (wf.rb p1 hp1).1
      have n2 : Nm p.1.2 := by rw [← (show p2.1 = p.1.2 from e2)]; exact (wf.rb p2 hp2).1
      refine ⟨.ref a, rfl, .ref qq, rfl, a, qq, B, p.1.1, p.1.2, rfl, .inl (sm a _ (by rw [upd_ne hab]; exact hA)), hq, n1, n2, m1, m2, ne, fun H2 s2 => ⟨true, rfl, iteF ?_⟩⟩
      refine ⟨.ref b, rfl, .ref qq, rfl, b, .int p.2, rfl, .inr ⟨_, Rl.pk p.1, qq, .inr ⟨od, s2 b _ (sm b _ upd_same)⟩, rfl, s2 qq _ hq, ?_⟩, p.2, rfl, w1, w2, true, rfl, iteF ⟨_, rfl, sm.trans s2⟩⟩
      rw [valV_pt, getP_of_mem wf.np (show (p.1, p.2) ∈ Pp from hm)]; rfl
    · rintro σ H1 ⟨y, rfl, sm⟩
      obtain ⟨l1, s1⟩ := same_lock hB sm
      exact ⟨l1, q _ s1⟩
theorem scCkSides : FnScope ["brims", "pipes", "name"] ["brims", "pipes"] (defScope sCkSides) := ⟨rfl, rfl, rfl, by decide +kernel, rfl, by decide +kernel, by decide +kernel⟩
theorem ok_ckSides {f fN fM : Addr} {fd fdN fdM : FuncData} (F : Fun K "check_sides" "check_sides" sCkSides f fd) (FN : Fun K "goes_out" "goes_out" sGoes fN fdN) (GN : FnOk P w K mg base CX0 1 fN fdN ["pipes", "name"] spGoes) (bN : Binds K fdN ["pipes", "name"] []) (gN : mg "goes_out" = some (.ref fN))
    (FM : Fun K "comes_in" "comes_in" sComes fM fdM) (GM : FnOk P w K mg base CX0 1 fM fdM ["pipes", "name"] spComes) (bM : Binds K fdM ["pipes", "name"] []) (gM : mg "comes_in" = some (.ref fM)) (ms : mg "sorted" = none) :
    FnOk P w K mg base CX0 2 f fd ["brims", "pipes"] (spCk2 Fit) := by
  refine F.ok scCkSides (fun vs H Q E h => ?_) (fun cdv A outer s H vs Q E hr h => ?_)
  · obtain ⟨a, b, B, Pp, rfl, _⟩ := h
    rfl
  · obtain ⟨a, b, B, Pp, rfl, hA, hB, wf, fit, q⟩ := h
    have hu := hu_of hr
    refine ⟨_, pss_one (ps_for PassesOwn.never rfl (pi_list (pe_callB (call_sortedD rfl) (by rfl) ms (by decide +kernel) (pa_cons (pv 0) pa_nil))) (pg_name (i := 2) scCkSides.nd rfl (.inl rfl))
      (pss_cons (ps_if (pt_cmpR op_gt (pe_call GN hr (by rfl) gN FN.kp bN .nil pass0 (pa_cons (pv 1) (pa_cons (pv 2) pa_nil))) (pe_dget hu (pv 0) (pv 2) (fun _ _ => rfl)) (nomark _)) (pss_one ps_never) pss_nil)
      (pss_one (ps_if (pt_cmpR op_gt (pe_call GM hr (by rfl) gM FM.kp bM .nil pass0 (pa_cons (pv 1) (pa_cons (pv 2) pa_nil))) (pe_dget hu (pv 0) (pv 2) (fun _ _ => rfl)) (nomark _)) (pss_one ps_never) pss_nil)))), ?_⟩
    refine ⟨.ref a, rfl, a, _, nms B, rfl, .inl hA, ?_, ?_, fun ys e pm _ ne => ?_⟩
    · unfold bk nms
      rw [List.map_map, List.map_map]; rfl
    · show (B.map _).length < 64
      rw [List.length_map]; have := wf.lb; omega
    refine ⟨e, rfl, ⟨_, SqL.of upd_same⟩, ?_⟩
    refine for_it (walk_list (K := K) (a := e) (xs := ys.map V.str)) (fun i σ H1 => ∃ y : Option V, σ = [some (.ref a), some (.ref b), y] ∧ Same (upd H e (.lst (ys.map V.str))) H1) ⟨none, rfl, Same.refl _⟩ (fun i σ H1 _ ⟨_, _, h⟩ => SqL.of (h e _ upd_same)) ?_ ?_
    · rintro i x σ H1 H1' hi ⟨y, rfl, sm⟩ ⟨rfl, hx⟩
      rw [List.getElem?_map] at hx
      cases hy : ys[i]? with
      | none => rw [hy] at hx; cases hx
      | some z =>
        rw [hy] at hx
        have hx' : V.str z = x := Option.some.inj hx
        subst hx'
        obtain ⟨p, hp, ez⟩ := List.mem_map.mp (pm.mem_iff.mp (List.mem_of_getElem? hy))
        have ez' : p.1 = z := ez
        obtain ⟨f1, f2⟩ := fit p hp
        rw [ez'] at f1 f2
        have gz : getB B z = some p.2 := getB_of_mem wf.nb (by rw [← ez']; exact hp)
        have sA := (same_new (o := .lst (ys.map V.str)) ne).trans sm
        refine ⟨.ref b, rfl, .str z, rfl, b, Pp, z, rfl, sA b _ hB, wf.np, wf.lp, fun H2 s2 => ?_⟩
        refine ⟨.ref a, rfl, .str z, rfl, a, .int p.2, rfl, .inl ⟨_, Sum.inr z, .inl (s2 a _ (sA a _ hA)), rfl, by rw [valV_bk, gz]; rfl⟩, _, _, rfl, rfl, _, rfl, ?_⟩
        rw [decide_eq_false (show ¬ (outW Pp z > p.2) by omega)]
        refine iteF ?_
        refine ⟨.ref b, rfl, .str z, rfl, b, Pp, z, rfl, s2 b _ (sA b _ hB), wf.np, wf.lp, fun H3 s3 => ?_⟩
        refine ⟨.ref a, rfl, .str z, rfl, a, .int p.2, rfl, .inl ⟨_, Sum.inr z, .inl (s3 a _ (s2 a _ (sA a _ hA))), rfl, by rw [valV_bk, gz]; rfl⟩, _, _, rfl, rfl, _, rfl, ?_⟩
        rw [decide_eq_false (show ¬ (inW Pp z > p.2) by omega)]
        exact iteF ⟨_, rfl, sm.trans (s2.trans s3)⟩
    · rintro σ H1 ⟨y, rfl, sm⟩
      exact q _ ((same_new ne).trans sm)
theorem scCkWays : FnScope ["brims", "pipes", "steps", "closed", "name"] ["brims", "pipes"] (defScope sCkWays) := ⟨rfl, rfl, rfl, by decide +kernel, rfl, by decide +kernel, by decide +kernel⟩
theorem ok_ckWays {f fN : Addr} {fd fdN : FuncData} (F : Fun K "check_ways" "check_ways" sCkWays f fd) (FN : Fun K "steps_out" "steps_out" sSteps fN fdN) (GN : FnOk P w K mg base CX0 2 fN fdN ["brims", "pipes"] spSteps) (bN : Binds K fdN ["brims", "pipes"] []) (gN : mg "steps_out" = some (.ref fN)) (ms : mg "sorted" = none) :
    FnOk P w K mg base CX0 3 f fd ["brims", "pipes"] (spCk2 fun B Pp => ∀ x ∈ nms B, Opn B Pp x) := by
  refine F.ok scCkWays (fun vs H Q E h => ?_) (fun cdv A outer s H vs Q E hr h => ?_)
  · obtain ⟨a, b, B, Pp, rfl, _⟩ := h
    rfl
  · obtain ⟨a, b, B, Pp, rfl, hA, hB, wf, op, q⟩ := h
    refine ⟨_, pss_cons (ps_set (i := 2) scCkWays.nd rfl (.inr rfl) (pe_call GN hr (by rfl) gN FN.kp bN .nil pass0 (pa_cons (pv 0) (pa_cons (pv 1) pa_nil))))
      (pss_cons (ps_setLc (i := 3) (own := [("name", 4)]) (g := gName 4) rfl scCkWays.nd rfl rfl (sw_true rfl rfl rfl (by decide +kernel)) (pi_list (pe_callB (call_sortedD rfl) (by rfl) ms (by decide +kernel) (pa_cons (pv 0) pa_nil)))
        (blkOk_by (N := ["brims", "pipes", "steps", "closed", "name"]) (sc := defScope sCkWays) (by decide +kernel)) (fun _ _ _ _ _ => pg_name (i := 4) scCkWays.nd rfl (Or.inl rfl))
        (fun _ _ _ _ _ => pts_one (pt_cmp (pc_dnotin (hu_of hr) (pv 4) (pv 2)))) (fun _ _ _ _ _ => pv 4))
      (pss_one (ps_if (pt_truth (pv 3) (by intro _; rfl)) (pss_one ps_never) pss_nil))), ?_⟩
    refine ⟨.ref a, rfl, .ref b, rfl, a, b, B, Pp, rfl, hA, hB, wf, fun H1 p S s1 np hp ndS mS => ?_⟩
    refine ⟨.ref a, rfl, a, _, nms B, rfl, .inl (s1 a _ hA), ?_, ?_, fun ys e pm _ ne => ?_⟩
    · unfold bk nms
      rw [List.map_map, List.map_map]; rfl
    · show (B.map _).length < 64
      rw [List.length_map]; have := wf.lb; omega
    have sE := same_new (o := .lst (ys.map V.str)) ne
    refine ⟨e, rfl, ⟨_, SqL.of upd_same⟩, fun D nD => ?_⟩
    refine lc_it (walk_list (K := K) (a := e) (xs := ys.map V.str)) (fun i H2 => H2 D = some (.lst []) ∧ Same (upd H1 e (.lst (ys.map V.str))) H2) ⟨upd_same, same_new nD⟩ (fun i H2 _ h => SqL.of (h.2 e _ upd_same)) ?_ ?_
    · rintro i x H2 H2' hi ⟨hD, sm⟩ ⟨rfl, hx⟩
      rw [List.getElem?_map] at hx
      cases hy : ys[i]? with
      | none => rw [hy] at hx; cases hx
      | some z =>
        rw [hy] at hx
        have hx' : V.str z = x := Option.some.inj hx
        subst hx'
        have mz : z ∈ nms B := pm.mem_iff.mp (List.mem_of_getElem? hy)
        have mz2 : z ∈ nms S := (mS z).mpr ⟨mz, op z mz⟩
        refine ⟨rfl, .str z, rfl, .ref p, rfl, p, _, rfl, .inl ⟨_, Sum.inr z, .inl (sm p _ (sE p _ hp)), rfl, rfl⟩, _, rfl, ?_⟩
        rw [valV_bk, getB_isSome, decide_eq_true mz2]
        exact iteF ⟨hD, sm⟩
    · rintro H2 ⟨hD, sm⟩
      refine ⟨.ref D, rfl, false, .inl ⟨[], SqL.of hD, rfl⟩, iteF ?_⟩
      exact q _ (s1.trans (sE.trans sm))
end
end Nl
end
section
set_option maxHeartbeats 1000000
namespace Nl
open PySem PySem.Spec PyProof.Rows L2 Nt
/-- what ins tells -/
def insOf (Pp : Pi) (z : Str) : List (Str × Int) := (Pp.filter fun p => decide (p.1.2 = z)).map fun p => (p.1.1, p.2)
/-- what outs tells -/
def outsOf (Pp : Pi) (z : Str) : List (Str × Int) := (Pp.filter fun p => decide (p.1.1 = z)).map fun p => (p.1.2, p.2)
/-- a list of tuples (a text, a number) stands there -/
def PairsAt (H : Hp) (as : List Addr) (l : List (Str × Int)) : Prop := as.length = l.length ∧ ∀ (i : Nat) (p : Str × Int), l[i]? = some p → ∃ q, as[i]? = some q ∧ H q = some (.tup [.str p.1, .int p.2])
theorem PairsAt.same {H H' : Hp} {as : List Addr} {l : List (Str × Int)} (h : PairsAt H as l) (s : Same H H') : PairsAt H' as l := ⟨h.1, fun i p e => by
  obtain ⟨q, e1, e2⟩ := h.2 i p e
  exact ⟨q, e1, s _ _ e2⟩⟩
theorem PairsAt.keep {H H' : Hp} {as : List Addr} {l : List (Str × Int)} (h : PairsAt H as l) (s : ∀ b xs, H b = some (.tup xs) → H' b = some (.tup xs)) : PairsAt H' as l := ⟨h.1, fun i p e => by
  obtain ⟨q, e1, e2⟩ := h.2 i p e
  exact ⟨q, e1, s _ _ e2⟩⟩
theorem PairsAt.push {H H' : Hp} {as : List Addr} {l : List (Str × Int)} {q : Addr} {p : Str × Int} (h : PairsAt H as l) (s : ∀ b xs, H b = some (.tup xs) → H' b = some (.tup xs)) (hq : H' q = some (.tup [.str p.1, .int p.2])) : PairsAt H' (as ++ [q]) (l ++ [p]) := by
  refine ⟨by rw [List.length_append, List.length_append, h.1]; rfl, fun i p' e => ?_⟩
  by_cases hi : i < l.length
  · rw [List.getElem?_append_left hi] at e
    obtain ⟨q', e1, e2⟩ := h.2 i p' e
    exact ⟨q', by rw [List.getElem?_append_left (by rw [h.1]; exact hi)]; exact e1, s _ _ e2⟩
  · rw [List.getElem?_append_right (by omega)] at e
    have hl : i - l.length = 0 := by
      cases hh : i - l.length with
      | zero => rfl
      | succ k => rw [hh] at e; simp at e
    rw [hl] at e
    have ep : p = p' := Option.some.inj e
    subst ep
    refine ⟨q, ?_, hq⟩
    rw [List.getElem?_append_right (by rw [h.1]; omega), h.1, hl]; rfl
/-- what an expression has made is locked for good: read, never written -/
def tFrz (t : TE) : TE := fun σ H Q => t σ H fun v H1 => ∃ d u, H1 d = some u ∧ Mut (some u) ∧ ∀ od, Q v (upd H1 d (.frz od u))
theorem pe_frz {X : Cx} {e : Expr} {t : TE} (h : PE X e t) : PE X e (tFrz t) := by
  refine ⟨fun pins s σ H Q I hw => ?_⟩
  refine thn (h.run pins s σ _ _ I hw) fun v s1 ⟨x, H1, I2, r, d, u, hd, mu, q⟩ => ?_
  obtain ⟨od, I3⟩ := I2.lock hd mu
  exact ⟨x, _, I3, r, q od⟩
section
variable {P : Program} {w : World} {K : PySem.W.Frag} {mg : Str → Option Value} {base : Heap}
def spSide (g : Pi → Str → List (Str × Int)) : Sp := fun vs H Q _ => ∃ (a : Addr) (Pp : Pi) (z : Str), vs = [.ref a, .str z] ∧ H a = some (.dT (pt Pp)) ∧ (Pp.map Prod.fst).Nodup ∧ Pp.length ≤ 200 ∧
  ∀ H' p as od, Same H H' → H p = none → H' p = some (.frz od (.lst (as.map V.ref))) → PairsAt H' as (g Pp z) → Q (.ref p) H'
theorem scPipesOut : FnScope ["pipes", "name", "one", "other"] ["pipes", "name"] (defScope sPipesOut) := ⟨rfl, rfl, rfl, by decide +kernel, rfl, by decide +kernel, by decide +kernel⟩
theorem ok_PipesOut {f : Addr} {fd : FuncData} {k : Nat} (F : Fun K "pipes_out" "pipes_out" sPipesOut f fd) : FnOk P w K mg base CX0 (k + 1) f fd ["pipes", "name"] (spSide outsOf) := by
  refine F.ok scPipesOut (fun vs H Q E h => ?_) (fun cdv A outer s H vs Q E hr h => ?_)
  · obtain ⟨a, Pp, z, rfl, _⟩ := h
    rfl
  · obtain ⟨a, Pp, z, rfl, hA, nd, hl, q⟩ := h
    refine ⟨_, pss_one (ps_ret (pe_frz (pe_lock (pe_lc (own := [("one", 2), ("other", 3)]) (g := gTup K 2 (gCons (gName 2) (gCons (gName 3) gNil)))
      (tt := tTest (tOp rEq (tVar 2) (tVar 1))) (te := tTup (tCons (tVar 3) (tCons (tDGet (tVar 0) (tTup (tCons (tVar 2) (tCons (tVar 3) tNil)))) tNil))) rfl scPipesOut.nd (pi_keys (pv 0))
      (blkOk_by (N := ["pipes", "name", "one", "other"]) (sc := defScope sPipesOut) (by decide +kernel)) (fun _ _ _ _ _ => pg_tup rfl (pgs_cons (pg_name (i := 2) scPipesOut.nd rfl (Or.inl rfl)) (pgs_cons (pg_name (i := 3) scPipesOut.nd rfl (Or.inl rfl)) pgs_nil)))
      (fun _ _ _ _ _ => pts_one (pt_cmpR op_eq (pv 2) (pv 1) (nomark _)))
      (fun _ _ _ _ _ => pe_tup (pa_cons (pv 3) (pa_cons (pe_dget (hu_of hr) (pv 0) (pe_tup (pa_cons (pv 2) (pa_cons (pv 3) pa_nil))) (fun _ _ => rfl)) pa_nil))))))), ?_⟩
    refine ⟨a, _, hA, trivial, fun od => ?_⟩
    refine ⟨.ref a, rfl, a, od, rfl, .inr ⟨_, upd_same, fun D nD => ?_⟩⟩
    have hDd : D ≠ a := fun e => by subst e; rw [upd_same] at nD; cases nD
    have nDH : H D = none := by rw [upd_ne hDd] at nD; exact nD
    refine lc_it (n := (pt Pp).length) walk_keysT (fun i H2 => ∃ as, H2 D = some (.lst (as.map V.ref)) ∧ PairsAt H2 as (outsOf (Pp.take i) z) ∧ Same (upd H a (.frz od (.dT (pt Pp)))) H2)
      ⟨[], upd_same, ⟨rfl, fun i p e => by simp [outsOf] at e⟩, same_new nD⟩ (fun i H2 _ ⟨_, _, _, h⟩ => h a _ upd_same) ?_ ?_
    · rintro i x H2 H2' hi ⟨as, hD, hP, sm⟩ ⟨rfl, kk, v, qq, hkv, rfl, hq⟩
      obtain ⟨p, hp, rfl, rfl⟩ := pt_at hkv
      have hm := List.mem_of_getElem? hp
      have tk : Pp.take (i + 1) = Pp.take i ++ [p] := by rw [List.take_add_one, hp]; rfl
      have lA : as.length ≤ 200 := by
        rw [hP.1]
        unfold outsOf
        rw [List.length_map]
        refine Nat.le_trans (List.length_filter_le _ _) ?_
        rw [List.length_take]; omega
      refine ⟨qq, [.str p.1.1, .str p.1.2], rfl, SqT.of hq, rfl, .str p.1.1, [.str p.1.2], rfl, .str p.1.2, [], rfl, rfl, rfl, ?_⟩
      refine ⟨.str p.1.1, rfl, .str z, rfl, rfl, _, rfl, ?_⟩
      rw [decStr]
      refine ite2 (fun e => ?_) (fun e => ?_)
      · refine ⟨.str p.1.2, rfl, .ref a, rfl, .str p.1.1, rfl, .str p.1.2, rfl, (by show 2 ≤ sizeLine; decide), fun t1 nt1 => ?_⟩
        have sT1 := same_new (o := .tup [.str p.1.1, .str p.1.2]) nt1
        refine ⟨a, .int p.2, rfl, .inr ⟨_, Rl.pk p.1, t1, .inr ⟨od, sT1 a _ (sm a _ upd_same)⟩, rfl, upd_same, ?_⟩, (by show 2 ≤ sizeLine; decide), fun t nt => ?_⟩
        · rw [valV_pt, getP_of_mem nd (show (p.1, p.2) ∈ Pp from hm)]; rfl
        · have hD1 := sT1 D _ hD
          have nDt : D ≠ t := ne_of_none hD1 nt
          refine ⟨_, (by rw [upd_ne nDt]; exact hD1), (by rw [List.length_map]; exact small1000 (by omega)), as ++ [t], ?_, ?_, ?_⟩
          · rw [upd_same, List.map_append]; rfl
          · rw [tk]
            unfold outsOf
            rw [List.filter_append, List.map_append]
            show PairsAt _ _ (_ ++ List.map _ (List.filter _ [p]))
            rw [List.filter_cons, if_pos e]
            refine PairsAt.push (p := (p.1.2, p.2)) (hP.same sT1) (fun b xs eb => ?_) (by rw [upd_ne (Ne.symm nDt), upd_same])
            have nb : b ≠ D := fun z => by subst z; rw [hD1] at eb; cases eb
            rw [upd_ne nb, upd_ne (ne_of_none eb nt)]; exact eb
          · exact fun c o ec => by
              have nb : c ≠ D := ne_of_none ec nD
              have e1 := sT1 c o (sm c o ec)
              rw [upd_ne nb, upd_ne (ne_of_none e1 nt)]; exact e1
      · refine ⟨as, hD, ?_, sm⟩
        rw [tk]
        unfold outsOf
        rw [List.filter_append, List.map_append]
        show PairsAt _ _ (_ ++ List.map _ (List.filter _ [p]))
        rw [List.filter_cons, if_neg e]
        simpa [outsOf] using hP
    · rintro H2 ⟨as, hD, hP, sm⟩
      obtain ⟨l1, l2⟩ := same_lock hA sm
      refine ⟨l1, ?_⟩
      rw [show (pt Pp).length = Pp.length from List.length_map _, List.take_length] at hP
      have hD3 : (upd H2 a (.dT (pt Pp))) D = some (.lst (as.map V.ref)) := by rw [upd_ne hDd]; exact hD
      refine ⟨D, _, hD3, trivial, fun od2 => ?_⟩
      refine q _ D as od2 (fun c o ec => ?_) nDH upd_same ⟨hP.1, fun i p e => ?_⟩
      · rw [upd_ne (ne_of_none ec nDH)]; exact l2 c o ec
      obtain ⟨t, e1, e2⟩ := hP.2 i p e
      refine ⟨t, e1, ?_⟩
      have nt : t ≠ a := fun z => by subst z; rw [l1] at e2; cases e2
      have nt2 : t ≠ D := fun z => by subst z; rw [hD] at e2; cases e2
      rw [upd_ne nt2, upd_ne nt]; exact e2
theorem scPipesIn : FnScope ["pipes", "name", "one", "other"] ["pipes", "name"] (defScope sPipesIn) := ⟨rfl, rfl, rfl, by decide +kernel, rfl, by decide +kernel, by decide +kernel⟩
theorem ok_PipesIn {f : Addr} {fd : FuncData} {k : Nat} (F : Fun K "pipes_in" "pipes_in" sPipesIn f fd) : FnOk P w K mg base CX0 (k + 1) f fd ["pipes", "name"] (spSide insOf) := by
  refine F.ok scPipesIn (fun vs H Q E h => ?_) (fun cdv A outer s H vs Q E hr h => ?_)
  · obtain ⟨a, Pp, z, rfl, _⟩ := h
    rfl
  · obtain ⟨a, Pp, z, rfl, hA, nd, hl, q⟩ := h
    refine ⟨_, pss_one (ps_ret (pe_frz (pe_lock (pe_lc (own := [("one", 2), ("other", 3)]) (g := gTup K 2 (gCons (gName 2) (gCons (gName 3) gNil)))
      (tt := tTest (tOp rEq (tVar 3) (tVar 1))) (te := tTup (tCons (tVar 2) (tCons (tDGet (tVar 0) (tTup (tCons (tVar 2) (tCons (tVar 3) tNil)))) tNil))) rfl scPipesIn.nd (pi_keys (pv 0))
      (blkOk_by (N := ["pipes", "name", "one", "other"]) (sc := defScope sPipesIn) (by decide +kernel)) (fun _ _ _ _ _ => pg_tup rfl (pgs_cons (pg_name (i := 2) scPipesIn.nd rfl (Or.inl rfl)) (pgs_cons (pg_name (i := 3) scPipesIn.nd rfl (Or.inl rfl)) pgs_nil)))
      (fun _ _ _ _ _ => pts_one (pt_cmpR op_eq (pv 3) (pv 1) (nomark _)))
      (fun _ _ _ _ _ => pe_tup (pa_cons (pv 2) (pa_cons (pe_dget (hu_of hr) (pv 0) (pe_tup (pa_cons (pv 2) (pa_cons (pv 3) pa_nil))) (fun _ _ => rfl)) pa_nil))))))), ?_⟩
    refine ⟨a, _, hA, trivial, fun od => ?_⟩
    refine ⟨.ref a, rfl, a, od, rfl, .inr ⟨_, upd_same, fun D nD => ?_⟩⟩
    have hDd : D ≠ a := fun e => by subst e; rw [upd_same] at nD; cases nD
    have nDH : H D = none := by rw [upd_ne hDd] at nD; exact nD
    refine lc_it (n := (pt Pp).length) walk_keysT (fun i H2 => ∃ as, H2 D = some (.lst (as.map V.ref)) ∧ PairsAt H2 as (insOf (Pp.take i) z) ∧ Same (upd H a (.frz od (.dT (pt Pp)))) H2)
      ⟨[], upd_same, ⟨rfl, fun i p e => by simp [insOf] at e⟩, same_new nD⟩ (fun i H2 _ ⟨_, _, _, h⟩ => h a _ upd_same) ?_ ?_
    · rintro i x H2 H2' hi ⟨as, hD, hP, sm⟩ ⟨rfl, kk, v, qq, hkv, rfl, hq⟩
      obtain ⟨p, hp, rfl, rfl⟩ := pt_at hkv
      have hm := List.mem_of_getElem? hp
      have tk : Pp.take (i + 1) = Pp.take i ++ [p] := by rw [List.take_add_one, hp]; rfl
      have lA : as.length ≤ 200 := by
        rw [hP.1]
        unfold insOf
        rw [List.length_map]
        refine Nat.le_trans (List.length_filter_le _ _) ?_
        rw [List.length_take]; omega
      refine ⟨qq, [.str p.1.1, .str p.1.2], rfl, SqT.of hq, rfl, .str p.1.1, [.str p.1.2], rfl, .str p.1.2, [], rfl, rfl, rfl, ?_⟩
      refine ⟨.str p.1.2, rfl, .str z, rfl, rfl, _, rfl, ?_⟩
      rw [decStr]
      refine ite2 (fun e => ?_) (fun e => ?_)
      · refine ⟨.str p.1.1, rfl, .ref a, rfl, .str p.1.1, rfl, .str p.1.2, rfl, (by show 2 ≤ sizeLine; decide), fun t1 nt1 => ?_⟩
        have sT1 := same_new (o := .tup [.str p.1.1, .str p.1.2]) nt1
        refine ⟨a, .int p.2, rfl, .inr ⟨_, Rl.pk p.1, t1, .inr ⟨od, sT1 a _ (sm a _ upd_same)⟩, rfl, upd_same, ?_⟩, (by show 2 ≤ sizeLine; decide), fun t nt => ?_⟩
        · rw [valV_pt, getP_of_mem nd (show (p.1, p.2) ∈ Pp from hm)]; rfl
        · have hD1 := sT1 D _ hD
          have nDt : D ≠ t := ne_of_none hD1 nt
          refine ⟨_, (by rw [upd_ne nDt]; exact hD1), (by rw [List.length_map]; exact small1000 (by omega)), as ++ [t], ?_, ?_, ?_⟩
          · rw [upd_same, List.map_append]; rfl
          · rw [tk]
            unfold insOf
            rw [List.filter_append, List.map_append]
            show PairsAt _ _ (_ ++ List.map _ (List.filter _ [p]))
            rw [List.filter_cons, if_pos e]
            refine PairsAt.push (p := (p.1.1, p.2)) (hP.same sT1) (fun b xs eb => ?_) (by rw [upd_ne (Ne.symm nDt), upd_same])
            have nb : b ≠ D := fun z => by subst z; rw [hD1] at eb; cases eb
            rw [upd_ne nb, upd_ne (ne_of_none eb nt)]; exact eb
          · exact fun c o ec => by
              have nb : c ≠ D := ne_of_none ec nD
              have e1 := sT1 c o (sm c o ec)
              rw [upd_ne nb, upd_ne (ne_of_none e1 nt)]; exact e1
      · refine ⟨as, hD, ?_, sm⟩
        rw [tk]
        unfold insOf
        rw [List.filter_append, List.map_append]
        show PairsAt _ _ (_ ++ List.map _ (List.filter _ [p]))
        rw [List.filter_cons, if_neg e]
        simpa [insOf] using hP
    · rintro H2 ⟨as, hD, hP, sm⟩
      obtain ⟨l1, l2⟩ := same_lock hA sm
      refine ⟨l1, ?_⟩
      rw [show (pt Pp).length = Pp.length from List.length_map _, List.take_length] at hP
      have hD3 : (upd H2 a (.dT (pt Pp))) D = some (.lst (as.map V.ref)) := by rw [upd_ne hDd]; exact hD
      refine ⟨D, _, hD3, trivial, fun od2 => ?_⟩
      refine q _ D as od2 (fun c o ec => ?_) nDH upd_same ⟨hP.1, fun i p e => ?_⟩
      · rw [upd_ne (ne_of_none ec nDH)]; exact l2 c o ec
      obtain ⟨t, e1, e2⟩ := hP.2 i p e
      refine ⟨t, e1, ?_⟩
      have nt : t ≠ a := fun z => by subst z; rw [l1] at e2; cases e2
      have nt2 : t ≠ D := fun z => by subst z; rw [hD] at e2; cases e2
      rw [upd_ne nt2, upd_ne nt]; exact e2
end
end Nl
end
section
set_option maxHeartbeats 1000000
namespace Nl
open PySem PySem.Spec PyProof.Rows L2 Nt
/-! ### the object -/
theorem bw : ¬ (("brim_by_pond" : Str) = "width_by_pair") := by decide +kernel
theorem bo : ¬ (("brim_by_pond" : Str) = "outs_by_pond") := by decide +kernel
theorem bi : ¬ (("brim_by_pond" : Str) = "ins_by_pond") := by decide +kernel
theorem wo : ¬ (("width_by_pair" : Str) = "outs_by_pond") := by decide +kernel
theorem wi : ¬ (("width_by_pair" : Str) = "ins_by_pond") := by decide +kernel
theorem oi : ¬ (("outs_by_pond" : Str) = "ins_by_pond") := by decide +kernel
/-- where a net's other dicts stand: widths, outs, ins -/
structure Dd where
  w : Addr
  o : Addr
  i : Addr
def nf (d1 : Addr) (d2 : Dd) : List (Str × V) := putF "ins_by_pond" (.ref d2.i) (putF "outs_by_pond" (.ref d2.o) (putF "width_by_pair" (.ref d2.w) (putF "brim_by_pond" (.ref d1) [])))
theorem nf_b (d1 : Addr) (d2 : Dd) : (nf d1 d2).lookup ("brim_by_pond" : Str) = some (.ref d1) := by
  unfold nf
  rw [lookup_putF, if_neg bi, lookup_putF, if_neg bo, lookup_putF, if_neg bw, lookup_putF, if_pos rfl]
theorem nf_w (d1 : Addr) (d2 : Dd) : (nf d1 d2).lookup ("width_by_pair" : Str) = some (.ref d2.w) := by
  unfold nf
  rw [lookup_putF, if_neg wi, lookup_putF, if_neg wo, lookup_putF, if_pos rfl]
theorem nf_o (d1 : Addr) (d2 : Dd) : (nf d1 d2).lookup ("outs_by_pond" : Str) = some (.ref d2.o) := by
  unfold nf
  rw [lookup_putF, if_neg oi, lookup_putF, if_pos rfl]
theorem nf_i (d1 : Addr) (d2 : Dd) : (nf d1 d2).lookup ("ins_by_pond" : Str) = some (.ref d2.i) := by
  unfold nf
  rw [lookup_putF, if_pos rfl]
theorem nf_no (d1 : Addr) (d2 : Dd) {m : Str} (h1 : ¬ m = "width_by_pair") (h2 : ¬ m = "brim_by_pond") (h3 : ¬ m = "outs_by_pond") (h4 : ¬ m = "ins_by_pond") : (nf d1 d2).lookup m = none := by
  unfold nf
  rw [lookup_putF, if_neg h4, lookup_putF, if_neg h3, lookup_putF, if_neg h1, lookup_putF, if_neg h2]; rfl
/-- a dict from each pond to a list of pairs -/
def SideAt (H : Hp) (d : Addr) (g : Str → List (Str × Int)) (l : List Str) : Prop := ∃ ls : List (Str × Addr), H d = some (.dK (ls.map fun p => ((Sum.inr p.1 : Key), V.ref p.2))) ∧ ls.map Prod.fst = l ∧ ∀ p ∈ ls, ∃ as od, H p.2 = some (.frz od (.lst (as.map V.ref))) ∧ PairsAt H as (g p.1)
theorem SideAt.keep {H H' : Hp} {d : Addr} {g : Str → List (Str × Int)} {l : List Str} (h : SideAt H d g l) (kd : ∀ x, H d = some x → H' d = some x) (kl : ∀ b od xs, H b = some (.frz od (.lst xs)) → H' b = some (.frz od (.lst xs))) (kt : ∀ b xs, H b = some (.tup xs) → H' b = some (.tup xs)) : SideAt H' d g l := by
  obtain ⟨ls, a, b, c⟩ := h
  refine ⟨ls, kd _ a, b, fun p hp => ?_⟩
  obtain ⟨as, od, e1, e2⟩ := c p hp
  exact ⟨as, od, kl _ _ _ e1, e2.keep kt⟩
theorem SideAt.same {H H' : Hp} {d : Addr} {g : Str → List (Str × Int)} {l : List Str} (h : SideAt H d g l) (s : Same H H') : SideAt H' d g l := h.keep (fun _ e => s _ _ e) (fun _ _ _ e => s _ _ e) (fun _ _ e => s _ _ e)
structure NetAt (C : Addr) (H : Hp) (n : Addr) (B : Br) (Pp : Pi) : Prop where
  at_ : ∃ dx d1 d2, H n = some (.ins C dx (nf d1 d2)) ∧ H d1 = some (.dK (bk B)) ∧ H d2.w = some (.dT (pt Pp)) ∧ SideAt H d2.o (outsOf Pp) (nms B) ∧ SideAt H d2.i (insOf Pp) (nms B)
theorem NetAt.same {C : Addr} {H H' : Hp} {n : Addr} {B : Br} {Pp : Pi} (h : NetAt C H n B Pp) (s : Same H H') : NetAt C H' n B Pp := by
  obtain ⟨dx, d1, d2, a, b, c, e, f⟩ := h
  exact ⟨dx, d1, d2, s _ _ a, s _ _ b, s _ _ c, e.same s, f.same s⟩
/-- a net that is let -/
structure Good (B : Br) (Pp : Pi) : Prop where
  wf : Wf Nm B Pp
  fit : Fit B Pp
  op : ∀ x ∈ nms B, Opn B Pp x
theorem Good.perm {B B' : Br} {P P' : Pi} (h : Good B P) (hB : B.Perm B') (hP : P.Perm P') : Good B' P' where
  wf := h.wf.perm hB hP
  fit := fun p hp => by
    have := h.fit p (hB.mem_iff.mpr hp)
    rw [outW_perm hP, inW_perm hP] at this
    exact this
  op := fun x hx => (h.op x ((hB.map Prod.fst).mem_iff.mpr hx)).perm hB hP
structure TxN (K : PySem.W.Frag) (mg : Str → Option Value) (C : Addr) : Prop where
  cl : Cls K C
  nB : NoAttr K C "brim_by_pond"
  nW : NoAttr K C "width_by_pair"
  nO : NoAttr K C "outs_by_pond"
  nI : NoAttr K C "ins_by_pond"
  mgC : mg "Net" = some (.ref C)
theorem nms_len' (B : Br) : (nms B).length = B.length := List.length_map _
def reB (B : Br) (ys : List Str) : Br := ys.map fun x => (x, (getB B x).getD 0)
theorem reB_perm {B : Br} (nd : (nms B).Nodup) {ys : List Str} (pm : ys.Perm (nms B)) : (reB B ys).Perm B := by
  have h1 : (reB B ys).Perm (reB B (nms B)) := pm.map _
  have h2 : reB B (nms B) = B := by
    unfold reB nms
    rw [List.map_map]
    conv => rhs; rw [← List.map_id B]
    refine List.map_congr_left fun p hp => ?_
    show (p.1, (getB B p.1).getD 0) = p
    rw [getB_of_mem nd (show (p.1, p.2) ∈ B from hp)]; rfl
  rw [h2] at h1
  exact h1
def reP (Pp : Pi) (qs : List (Str × Str)) : Pi := qs.map fun q => (q, (getP Pp q).getD 0)
theorem reP_perm {Pp : Pi} (nd : (Pp.map Prod.fst).Nodup) {qs : List (Str × Str)} (pm : qs.Perm (Pp.map Prod.fst)) : (reP Pp qs).Perm Pp := by
  have h1 : (reP Pp qs).Perm (reP Pp (Pp.map Prod.fst)) := pm.map _
  have h2 : reP Pp (Pp.map Prod.fst) = Pp := by
    unfold reP
    rw [List.map_map]
    conv => rhs; rw [← List.map_id Pp]
    refine List.map_congr_left fun p hp => ?_
    show (p.1, (getP Pp p.1).getD 0) = p
    rw [getP_of_mem nd (show (p.1, p.2) ∈ Pp from hp)]; rfl
  rw [h2] at h1
  exact h1
theorem pt_append (S T : Pi) : pt (S ++ T) = pt S ++ pt T := List.map_append
theorem pt_len (S : Pi) : (pt S).length = S.length := List.length_map _
theorem getP_none {Pp : Pi} {q : Str × Str} (h : q ∉ Pp.map Prod.fst) : getP Pp q = none := by
  unfold getP
  rw [List.find?_eq_none.mpr (fun p hp => by
    have : p.1 ≠ q := fun e => h (List.mem_map.mpr ⟨p, hp, e⟩)
    simpa using this)]
  rfl
theorem putK_pt {S : Pi} {q : Str × Str} {n : Int} (h : q ∉ S.map Prod.fst) : putK (pt S) (Rl.pk q) (.int n) = pt (S ++ [(q, n)]) := by
  rw [putK_new _ (by rw [valV_pt, getP_none h]; rfl), pt_append]; rfl
theorem take_nd {α : Type} {l : List α} (nd : l.Nodup) {i : Nat} {x : α} (h : l[i]? = some x) : x ∉ l.take i := by
  intro m
  have h2 : (l.take (i + 1)).Nodup := List.Nodup.sublist (List.take_sublist _ _) nd
  rw [List.take_add_one, h, List.nodup_append] at h2
  exact h2.2.2 x m x (List.mem_singleton.mpr rfl) rfl
section
variable {P : Program} {w : World} {K : PySem.W.Frag} {mg : Str → Option Value} {base : Heap}
theorem scNInit : FnScope ["self", "brims", "pipes", "laid", "name", "one", "other"] ["self", "brims", "pipes"] (defScope mNet_init) := ⟨rfl, rfl, rfl, by decide +kernel, rfl, by decide +kernel, by decide +kernel⟩
def spNInit (C : Addr) : Sp := fun vs H Q _ => ∃ (n dx a b : Addr) (B : Br) (Pp : Pi), vs = [.ref n, .ref a, .ref b] ∧ H n = some (.ins C dx []) ∧ H a = some (.dK (bk B)) ∧ H b = some (.dT (pt Pp)) ∧ Good B Pp ∧
  ∀ (H' : Hp) (B' : Br) (P' : Pi), NetAt C H' n B' P' → B'.Perm B → P'.Perm Pp → sortedS (nms B') = true → (P'.map Prod.fst).Pairwise (fun x y => Rl.ltP y x = false) → (∃ dx' d1 d2, H' n = some (.ins C dx' (nf d1 d2)) ∧ H d1 = none ∧ H d2.o = none ∧ H d2.i = none) → (∀ b o, H b = some o → b ≠ n → H' b = some o) → Q .non H'
/-- the net's fields behind each of the four stores -/
theorem f2_b (d1 d2 : Addr) : (putF "width_by_pair" (.ref d2) (putF "brim_by_pond" (.ref d1) [])).lookup ("brim_by_pond" : Str) = some (V.ref d1) := by
  rw [lookup_putF, if_neg bw, lookup_putF, if_pos rfl]
theorem f2_w (d1 d2 : Addr) : (putF "width_by_pair" (.ref d2) (putF "brim_by_pond" (.ref d1) [])).lookup ("width_by_pair" : Str) = some (V.ref d2) := by
  rw [lookup_putF, if_pos rfl]
theorem f3_b (d1 d2 d3 : Addr) : (putF "outs_by_pond" (.ref d3) (putF "width_by_pair" (.ref d2) (putF "brim_by_pond" (.ref d1) []))).lookup ("brim_by_pond" : Str) = some (V.ref d1) := by
  rw [lookup_putF, if_neg bo, f2_b]
theorem f3_w (d1 d2 d3 : Addr) : (putF "outs_by_pond" (.ref d3) (putF "width_by_pair" (.ref d2) (putF "brim_by_pond" (.ref d1) []))).lookup ("width_by_pair" : Str) = some (V.ref d2) := by
  rw [lookup_putF, if_neg wo, f2_w]
theorem rk_val {ls : List (Str × Addr)} {z : Str} (h : z ∉ ls.map Prod.fst) : valV (ls.map fun p => ((Sum.inr p.1 : Key), V.ref p.2)) (Sum.inr z) = none := by
  unfold valV
  rw [List.find?_eq_none.mpr (fun p hp => by
    obtain ⟨q, hq, rfl⟩ := List.mem_map.mp hp
    have : q.1 ≠ z := fun e => h (List.mem_map.mpr ⟨q, hq, e⟩)
    simpa using this)]
  rfl
/-- {name: f(..) for name in d}, where each value is a new list of pairs -/
theorem side_dc {B : Br} {g : Str → List (Str × Int)} {d D : Addr} {od : Obj} {H1 : Hp} {σ : L2.St} {tv : TE} {j : Nat} {Qd : Hp → Prop} (nd : (nms B).Nodup) (ln : B.length ≤ 12) (he : H1 d = some (.frz od (.dK (bk B)))) (nD : H1 D = none)
    (hj : ∀ z : Str, ((wipe σ [j]).set j (some (.str z)))[j]? = some (some (V.str z))) (hw : ∀ z : Str, wipe ((wipe σ [j]).set j (some (.str z))) [j] = wipe σ [j])
    (ht : ∀ (z : Str) (H2 : Hp) (R : V → Hp → Prop), z ∈ nms B → Same H1 H2 → (∀ H3 p as od, Same H2 H3 → H2 p = none → H3 p = some (.frz od (.lst (as.map V.ref))) → PairsAt H3 as (g z) → R (.ref p) H3) → tv ((wipe σ [j]).set j (some (.str z))) H2 R)
    (hd : ∀ H2, SideAt H2 D g (nms B) → Same H1 H2 → Qd H2) :
    ∃ W : Nat → Nat → Hp → Prop, (∃ m, W 0 m (upd H1 D (.dK []))) ∧ ∀ i m H, W i m H →
      ((Itk d od (bk B)).stop i H ∧ Qd H) ∨ ((Itk d od (bk B)).go i H ∧ ∃ Nx : Hp → Prop, (∀ H', Nx H' → ∃ m', m' < m ∧ W (i + 1) m' H') ∧
        ∀ x H', (Itk d od (bk B)).yld i H x H' → gName j x (wipe σ [j]) H' fun σ2 H2 => wipe σ2 [j] = wipe σ [j] ∧ tYes σ2 H2 fun b H3 => if b = true then Rl.tbD (tVar j) tv D σ2 H3 Nx else Nx H3) := by
  refine Rl.gc_it (n := (bk B).length) (b0 := fun _ => .dK []) walk_keys (fun i H2 => SideAt H2 D g ((nms B).take i) ∧ Same H1 H2) ⟨⟨[], upd_same, rfl, fun p hp => (List.not_mem_nil hp).elim⟩, same_new nD⟩ (fun i H2 _ h => h.2 d _ he) ?_ ?_
  · rintro i x H2 H2' hi ⟨⟨ls, hD, hk, hl⟩, sm⟩ ⟨rfl, kk, v, hkv, rfl⟩
    obtain ⟨p, hp, rfl, rfl⟩ := bk_at hkv
    have hn : (nms B)[i]? = some p.1 := by unfold nms; rw [List.getElem?_map, hp]; rfl
    refine ⟨hw p.1, ?_⟩
    show Rl.tbD (tVar j) tv D (List.set (wipe σ [j]) j (some (V.str p.1))) H2' fun H2 => SideAt H2 D g ((nms B).take (i + 1)) ∧ Same H1 H2
    refine ⟨.str p.1, hj p.1, ht p.1 H2' _ (List.mem_of_getElem? hn) sm fun H3 q as oq s3 nq hq hP => ⟨_, DPut.k (k := Sum.inr p.1) (s3 D _ hD) ?_, ?_, ?_⟩⟩
    · rw [List.length_map]
      have e1 := congrArg List.length hk
      rw [List.length_map, List.length_take] at e1
      exact small1000 (by have : (nms B).length = B.length := List.length_map _; omega)
    · have fr : p.1 ∉ ls.map Prod.fst := by rw [hk]; exact take_nd nd hn
      have hD3 := s3 D _ hD
      have kl : ∀ b od xs, H3 b = some (.frz od (.lst xs)) → (upd H3 D (.dK (putK (ls.map fun p => ((Sum.inr p.1 : Key), V.ref p.2)) (Sum.inr p.1) (.ref q)))) b = some (.frz od (.lst xs)) := fun b od xs e => by
        rw [upd_ne (fun z => by subst z; rw [hD3] at e; cases e)]; exact e
      have kt : ∀ b xs, H3 b = some (.tup xs) → (upd H3 D (.dK (putK (ls.map fun p => ((Sum.inr p.1 : Key), V.ref p.2)) (Sum.inr p.1) (.ref q)))) b = some (.tup xs) := fun b xs e => by
        rw [upd_ne (fun z => by subst z; rw [hD3] at e; cases e)]; exact e
      refine ⟨ls ++ [(p.1, q)], ?_, ?_, fun r hr => ?_⟩
      · rw [upd_same, putK_new _ (rk_val fr), List.map_append]; rfl
      · rw [List.map_append, hk, List.take_add_one, hn]; rfl
      · rcases List.mem_append.mp hr with hr | hr
        · obtain ⟨as', od', e1, e2⟩ := hl r hr
          exact ⟨as', od', kl _ _ _ (s3 _ _ e1), (e2.same s3).keep kt⟩
        · have er : r = (p.1, q) := by simpa using hr
          subst er
          exact ⟨as, oq, kl _ _ _ hq, hP.keep kt⟩
    · exact fun c o ec => by
        have nb : c ≠ D := ne_of_none ec nD
        rw [upd_ne nb]; exact s3 c o (sm c o ec)
  · rintro H2 ⟨S, sm⟩
    rw [bk_len, ← nms_len', List.take_length] at S
    exact hd H2 S sm
/-- and the dict that was walked is itself again -/
theorem SideAt.unlock {H1 : Hp} {d D : Addr} {od : Obj} {u : List (Key × V)} {g : Str → List (Str × Int)} {l : List Str} (S : SideAt H1 D g l) (l1 : H1 d = some (.frz od (.dK u))) : SideAt (upd H1 d (.dK u)) D g l := by
  have k : ∀ {b : Addr} {o : HO}, H1 b = some o → (∀ od v, o ≠ .frz od (.dK v)) → (upd H1 d (.dK u)) b = some o := fun {b o} e no => by
    rw [upd_ne (fun z => by subst z; rw [l1] at e; exact no _ _ (Option.some.inj e).symm)]; exact e
  obtain ⟨ls, a, b, c⟩ := S
  refine ⟨ls, k a (fun _ v e => by cases e), b, fun p hp => ?_⟩
  obtain ⟨as, oq, e1, e2⟩ := c p hp
  exact ⟨as, oq, k e1 (fun _ v e => by cases e), e2.keep fun b xs e => k e (fun _ v e => by cases e)⟩
theorem ok_nInit {f C f1 f2 f3 f4 f5 f6 : Addr} {fd fd1 fd2 fd3 fd4 fd5 fd6 : FuncData} (F : FunD K "__init__" "Net.__init__" (defArgs mNet_init) (defBody mNet_init) (defScope mNet_init) [.non] [] f fd) (T : TxN K mg C)
    (F1 : Fun K "check_ponds" "check_ponds" sCkPonds f1 fd1) (G1 : FnOk P w K mg base CX0 3 f1 fd1 ["brims"] spCkPonds) (b1 : Binds K fd1 ["brims"] []) (g1 : mg "check_ponds" = some (.ref f1))
    (F2 : Fun K "check_pipes" "check_pipes" sCkPipes f2 fd2) (G2 : FnOk P w K mg base CX0 4 f2 fd2 ["brims", "pipes"] (spCk2 fun _ _ => True)) (b2 : Binds K fd2 ["brims", "pipes"] []) (g2 : mg "check_pipes" = some (.ref f2))
    (F3 : Fun K "check_sides" "check_sides" sCkSides f3 fd3) (G3 : FnOk P w K mg base CX0 2 f3 fd3 ["brims", "pipes"] (spCk2 Fit)) (b3 : Binds K fd3 ["brims", "pipes"] []) (g3 : mg "check_sides" = some (.ref f3))
    (F4 : Fun K "check_ways" "check_ways" sCkWays f4 fd4) (G4 : FnOk P w K mg base CX0 3 f4 fd4 ["brims", "pipes"] (spCk2 fun B Pp => ∀ x ∈ nms B, Opn B Pp x)) (b4 : Binds K fd4 ["brims", "pipes"] []) (g4 : mg "check_ways" = some (.ref f4))
    (F5 : Fun K "pipes_out" "pipes_out" sPipesOut f5 fd5) (G5 : FnOk P w K mg base CX0 1 f5 fd5 ["pipes", "name"] (spSide outsOf)) (b5 : Binds K fd5 ["pipes", "name"] []) (g5 : mg "pipes_out" = some (.ref f5))
    (F6 : Fun K "pipes_in" "pipes_in" sPipesIn f6 fd6) (G6 : FnOk P w K mg base CX0 1 f6 fd6 ["pipes", "name"] (spSide insOf)) (b6 : Binds K fd6 ["pipes", "name"] []) (g6 : mg "pipes_in" = some (.ref f6))
    (mi : mg "isinstance" = none) (md : mg "dict" = none) (ms : mg "sorted" = none) : FnOk P w K mg base CX0 5 f fd ["self", "brims", "pipes"] (spNInit C) := by
  refine F.ok scNInit (fun vs H Q E h => ?_) (fun cdv A outer s H vs Q E hr h => ?_)
  · obtain ⟨n, dx, a, b, B, Pp, rfl, _⟩ := h
    rfl
  · obtain ⟨n, dx, a, b, B, Pp, rfl, hn, hA, hB, good, q⟩ := h
    have hu := hu_of hr
    have wf := good.wf
    refine ⟨_, PSs.nox (pss_cons (ps_set (i := 3) scNInit.nd rfl (.inr rfl) (pe_ifExp (pt_cmp (pc_isN (pv 2))) pe_dnewT (pv 2)))
      (pss_cons (ps_if (PW.pt (pw_or (pt_not (pt_val (pe_callB call_isi (by rfl) mi (by decide +kernel) (pa_cons (pv 1) (pa_cons (pe_bltn (v := .ty "dict") (by rfl) md (by decide +kernel) rfl) pa_nil)))))
        (pw_or1 (pt_not (pt_val (pe_callB call_isi (by rfl) mi (by decide +kernel) (pa_cons (pv 3) (pa_cons (pe_bltn (v := .ty "dict") (by rfl) md (by decide +kernel) rfl) pa_nil)))))))) (pss_one ps_never) pss_nil)
      (pss_cons (ps_expr (pe_call G1 (hr.mono (by decide)) (by rfl) g1 F1.kp b1 .nil pass0 (pa_cons (pv 1) pa_nil)))
      (pss_cons (ps_expr (pe_call G2 hr (by rfl) g2 F2.kp b2 .nil pass0 (pa_cons (pv 1) (pa_cons (pv 3) pa_nil))))
      (pss_cons (ps_expr (pe_call G3 (hr.mono (by decide)) (by rfl) g3 F3.kp b3 .nil pass0 (pa_cons (pv 1) (pa_cons (pv 3) pa_nil))))
      (pss_cons (ps_expr (pe_call G4 (hr.mono (by decide)) (by rfl) g4 F4.kp b4 .nil pass0 (pa_cons (pv 1) (pa_cons (pv 3) pa_nil))))
      (pss_cons (ps_fld (pv 0) (Rl.pe_dcP (T := .dK []) (own := [("name", 4)]) (g := gName 4) (tt := tYes) (.inr rfl) hr rfl scNInit.nd (pi_list (pe_callB (call_sortedD rfl) (by rfl) ms (by decide +kernel) (pa_cons (pv 1) pa_nil)))
        (blkOk_by (N := ["self", "brims", "pipes", "laid", "name", "one", "other"]) (sc := defScope mNet_init) (by decide +kernel)) (fun _ _ _ _ _ => pg_name (i := 4) scNInit.nd rfl (Or.inl rfl)) (fun _ _ _ _ _ => pts_nil)
        (fun _ _ _ _ _ => pv 4) (fun _ _ _ _ _ => pe_dget hu (pv 1) (pv 4) (fun _ _ => rfl))) rfl)
      (pss_cons (ps_fld (pv 0) (Rl.pe_dcP (T := .dT []) (own := [("one", 5), ("other", 6)]) (g := gTup K 2 (gCons (gName 5) (gCons (gName 6) gNil))) (tt := tYes) (.inl rfl) hr rfl scNInit.nd (pi_list (pe_callB (Rl.call_sortD rfl) (by rfl) ms (by decide +kernel) (pa_cons (pv 3) pa_nil)))
        (blkOk_by (N := ["self", "brims", "pipes", "laid", "name", "one", "other"]) (sc := defScope mNet_init) (by decide +kernel)) (fun _ _ _ _ _ => pg_tup rfl (pgs_cons (pg_name (i := 5) scNInit.nd rfl (Or.inl rfl)) (pgs_cons (pg_name (i := 6) scNInit.nd rfl (Or.inl rfl)) pgs_nil))) (fun _ _ _ _ _ => pts_nil)
        (fun _ _ _ _ _ => pe_tup (pa_cons (pv 5) (pa_cons (pv 6) pa_nil))) (fun _ _ _ _ _ => pe_dget hu (pv 3) (pe_tup (pa_cons (pv 5) (pa_cons (pv 6) pa_nil))) (fun _ _ => rfl))) rfl)
      (pss_cons (ps_fld (pv 0) (pe_lock (Rl.pe_dcP (T := .dK []) (own := [("name", 4)]) (g := gName 4) (tt := tYes) (tk := tVar 4) (tv := tCall (spSide outsOf) [] (fun _ _ _ => False) (tCons (tFld K (tVar 0) "width_by_pair") (tCons (tVar 4) tNil))) (.inr rfl) hr rfl scNInit.nd (pi_keys (pe_fld (pv 0) rfl))
        (blkOk_by (N := ["self", "brims", "pipes", "laid", "name", "one", "other"]) (sc := defScope mNet_init) (by decide +kernel)) (fun _ _ _ _ _ => pg_name (i := 4) scNInit.nd rfl (Or.inl rfl)) (fun _ _ _ _ _ => pts_nil)
        (fun _ _ _ _ _ => pv 4) (fun _ _ _ _ _ => pe_call G5 (hr.mono (by decide)) (by rfl) g5 F5.kp b5 .nil pass0 (pa_cons (pe_fld (pv 0) rfl) (pa_cons (pv 4) pa_nil))))) rfl)
      (pss_one (ps_fld (pv 0) (pe_lock (Rl.pe_dcP (T := .dK []) (own := [("name", 4)]) (g := gName 4) (tt := tYes) (tk := tVar 4) (tv := tCall (spSide insOf) [] (fun _ _ _ => False) (tCons (tFld K (tVar 0) "width_by_pair") (tCons (tVar 4) tNil))) (.inr rfl) hr rfl scNInit.nd (pi_keys (pe_fld (pv 0) rfl))
        (blkOk_by (N := ["self", "brims", "pipes", "laid", "name", "one", "other"]) (sc := defScope mNet_init) (by decide +kernel)) (fun _ _ _ _ _ => pg_name (i := 4) scNInit.nd rfl (Or.inl rfl)) (fun _ _ _ _ _ => pts_nil)
        (fun _ _ _ _ _ => pv 4) (fun _ _ _ _ _ => pe_call G6 (hr.mono (by decide)) (by rfl) g6 F6.kp b6 .nil pass0 (pa_cons (pe_fld (pv 0) rfl) (pa_cons (pv 4) pa_nil))))) rfl))))))))))), ?_⟩
    -- laid
    refine ⟨.ref b, rfl, false, rfl, iteF ⟨.ref b, rfl, ?_⟩⟩
    refine ⟨.ref a, rfl, .ref a, .ty "dict", .type "dict", .type "dict", true, rfl, .ty _, .base (.dK hA), kit_ty (by decide +kernel), true, rfl, iteF ?_⟩
    refine ⟨.ref b, rfl, .ref b, .ty "dict", .type "dict", .type "dict", true, rfl, .ty _, .base (.dT hB), kit_ty (by decide +kernel), true, rfl, iteF ?_⟩
    refine ⟨.ref a, rfl, a, B, Pp, rfl, hA, wf, fun H1 s1 => ?_⟩
    refine ⟨.ref a, rfl, .ref b, rfl, a, b, B, Pp, rfl, s1 a _ hA, s1 b _ hB, wf, trivial, fun H2 s2 => ?_⟩
    have s12 := s1.trans s2
    refine ⟨.ref a, rfl, .ref b, rfl, a, b, B, Pp, rfl, s12 a _ hA, s12 b _ hB, wf, good.fit, fun H3 s3 => ?_⟩
    have s13 := s12.trans s3
    refine ⟨.ref a, rfl, .ref b, rfl, a, b, B, Pp, rfl, s13 a _ hA, s13 b _ hB, wf, good.op, fun H4 s4 => ?_⟩
    have s14 := s13.trans s4
    -- self.brim_by_pond
    refine ⟨.ref a, rfl, a, _, nms B, rfl, .inl (s14 a _ hA), ?_, ?_, fun ys e pm srt ne => ?_⟩
    · unfold bk nms
      rw [List.map_map, List.map_map]; rfl
    · show (B.map _).length < 64
      rw [List.length_map]; have := wf.lb; omega
    have ndy : ys.Nodup := pm.nodup_iff.mpr wf.nb
    have sE := same_new (o := .lst (ys.map V.str)) ne
    refine ⟨e, rfl, ⟨_, SqL.of upd_same⟩, fun D nD => ?_⟩
    refine Rl.gc_it (b0 := fun _ => .dK []) (walk_list (K := K) (a := e) (xs := ys.map V.str)) (fun i H5 => H5 D = some (.dK (bk (reB B (ys.take i)))) ∧ Same (upd H4 e (.lst (ys.map V.str))) H5) ⟨upd_same, same_new nD⟩ (fun i H5 _ h => SqL.of (h.2 e _ upd_same)) ?_ ?_
    · rintro i x H5 H5' hi ⟨hD, sm⟩ ⟨rfl, hx⟩
      rw [List.getElem?_map] at hx
      cases hy : ys[i]? with
      | none => rw [hy] at hx; cases hx
      | some z =>
        rw [hy] at hx
        have hx' : V.str z = x := Option.some.inj hx
        subst hx'
        obtain ⟨c, hc⟩ := getB_some (pm.mem_iff.mp (List.mem_of_getElem? hy))
        refine ⟨rfl, .str z, rfl, .ref a, rfl, .str z, rfl, a, .int c, rfl, .inl ⟨_, Sum.inr z, .inl (sm a _ (sE a _ (s14 a _ hA))), rfl, by rw [valV_bk, hc]; rfl⟩, _, DPut.k (k := Sum.inr z) hD ?_, ?_, ?_⟩
        · rw [bk_len]
          unfold reB
          rw [List.length_map, List.length_take]
          have := pm.length_eq
          have h2 : (nms B).length = B.length := List.length_map _
          have := wf.lb
          exact small1000 (by omega)
        · have fr : z ∉ nms (reB B (ys.take i)) := by
            unfold nms reB
            rw [List.map_map]
            intro m
            obtain ⟨u, hu', eu⟩ := List.mem_map.mp m
            exact take_nd ndy hy (by rw [← (show u = z from eu)]; exact hu')
          rw [upd_same, putK_bk fr, List.take_add_one, hy]
          unfold reB
          rw [List.map_append]
          show _ = some (HO.dK (bk (_ ++ [(z, (getB B z).getD 0)])))
          rw [hc]; rfl
        · exact fun c' o ec => by
            have nb : c' ≠ D := ne_of_none ec nD
            rw [upd_ne nb]; exact sm c' o ec
    · rintro H5 ⟨hD, sm⟩
      rw [List.length_map, List.take_length] at hD
      have s15 : Same H H5 := s14.trans (sE.trans sm)
      have nDn : n ≠ D := ne_of_none (sE n _ (s14 n _ hn)) nD
      refine ⟨.ref n, rfl, n, C, dx, [], rfl, s15 n _ hn, T.cl, T.nB, by decide, ?_⟩
      have hnb : n ≠ b := fun z => by subst z; rw [hn] at hB; cases hB
      have hna : n ≠ a := fun z => by subst z; rw [hn] at hA; cases hA
      have hB6 : (upd H5 n (.ins C dx (putF "brim_by_pond" (.ref D) []))) b = some (.dT (pt Pp)) := by rw [upd_ne (Ne.symm hnb)]; exact s15 b _ hB
      have hn6 : (upd H5 n (.ins C dx (putF "brim_by_pond" (.ref D) []))) n = some (.ins C dx (putF "brim_by_pond" (.ref D) [])) := upd_same
      have hD6 : (upd H5 n (.ins C dx (putF "brim_by_pond" (.ref D) []))) D = some (.dK (bk (reB B ys))) := by rw [upd_ne (Ne.symm nDn)]; exact hD
      have k6 : ∀ c o, H c = some o → c ≠ n → (upd H5 n (.ins C dx (putF "brim_by_pond" (.ref D) []))) c = some o := fun c o ec nc => by rw [upd_ne nc]; exact s15 c o ec
      obtain ⟨H6, hH6⟩ : ∃ H6, H6 = upd H5 n (.ins C dx (putF "brim_by_pond" (.ref D) [])) := ⟨_, rfl⟩
      rw [← hH6] at hB6 hn6 hD6 k6
      rw [← hH6]
      -- self.width_by_pair
      refine ⟨.ref b, rfl, b, _, Pp.map Prod.fst, rfl, .inl hB6, ?_, ?_, fun qs e2 pm2 srt2 hqs ne2 => ?_⟩
      · unfold pt
        rw [List.map_map, List.map_map]; rfl
      · rw [List.length_map]; have := wf.lp; omega
      have ndq : (qs.map (·.2)).Nodup := pm2.nodup_iff.mpr wf.np
      have ql : qs.length = Pp.length := by
        have := pm2.length_eq
        simpa using this
      have sF := same_new (o := .lst (qs.map fun q => V.ref q.1)) ne2
      refine ⟨e2, rfl, ⟨_, SqL.of upd_same⟩, fun D2 nD2 => ?_⟩
      refine Rl.gc_it (b0 := fun _ => .dT []) (walk_list (K := K) (a := e2) (xs := qs.map fun q => V.ref q.1)) (fun i H7 => H7 D2 = some (.dT (pt (reP Pp ((qs.map (·.2)).take i)))) ∧ Same (upd H6 e2 (.lst (qs.map fun q => V.ref q.1))) H7) ⟨upd_same, same_new nD2⟩ (fun i H7 _ h => SqL.of (h.2 e2 _ upd_same)) ?_ ?_
      · rintro i x H7 H7' hi ⟨hD2, sm2⟩ ⟨rfl, hx⟩
        rw [List.getElem?_map] at hx
        cases hy : qs[i]? with
        | none => rw [hy] at hx; cases hx
        | some z =>
          rw [hy] at hx
          have hx' : V.ref z.1 = x := Option.some.inj hx
          subst hx'
          have hzt := sm2 z.1 _ (sF z.1 _ (hqs z (List.mem_of_getElem? hy)))
          have hy2 : (qs.map (·.2))[i]? = some z.2 := by rw [List.getElem?_map, hy]; rfl
          obtain ⟨p, hp, ez⟩ := List.mem_map.mp (pm2.mem_iff.mp (List.mem_of_getElem? hy2))
          have gz : getP Pp z.2 = some p.2 := getP_of_mem wf.np (by rw [← (show p.1 = z.2 from ez)]; exact hp)
          refine ⟨z.1, [.str z.2.1, .str z.2.2], rfl, SqT.of hzt, rfl, .str z.2.1, [.str z.2.2], rfl, .str z.2.2, [], rfl, rfl, rfl, ?_⟩
          refine ⟨.str z.2.1, rfl, .str z.2.2, rfl, (by show 2 ≤ sizeLine; decide), fun t1 nt1 => ?_⟩
          have n1D : t1 ≠ D2 := Ne.symm (ne_of_none hD2 nt1)
          refine ⟨.ref b, rfl, .str z.2.1, rfl, .str z.2.2, rfl, (by show 2 ≤ sizeLine; decide), fun t2 nt2 => ?_⟩
          have n2D : t2 ≠ D2 := Ne.symm (ne_of_none (show (upd H7' t1 (.tup [.str z.2.1, .str z.2.2])) D2 = _ by rw [upd_ne (Ne.symm n1D)]; exact hD2) nt2)
          have n12 : t1 ≠ t2 := ne_of_none (o := .tup [.str z.2.1, .str z.2.2]) upd_same nt2
          have sT := (same_new (o := .tup [.str z.2.1, .str z.2.2]) nt1).trans (same_new (o := .tup [.str z.2.1, .str z.2.2]) nt2)
          refine ⟨b, .int p.2, rfl, .inr ⟨_, Rl.pk z.2, t2, .inl (sT b _ (sm2 b _ (sF b _ hB6))), rfl, upd_same, by rw [valV_pt, gz]; rfl⟩, _, DPut.t (k := Rl.pk z.2) (sT D2 _ hD2) (by rw [upd_ne n12, upd_same]; rfl) ?_, ?_, ?_⟩
          · rw [pt_len]
            unfold reP
            rw [List.length_map, List.length_take, List.length_map]
            have := wf.lp
            exact small1000 (by omega)
          · have fr : z.2 ∉ (reP Pp ((qs.map (·.2)).take i)).map Prod.fst := by
              unfold reP
              rw [List.map_map]
              intro m
              obtain ⟨u, hu', eu⟩ := List.mem_map.mp m
              exact take_nd ndq hy2 (by rw [← (show u = z.2 from eu)]; exact hu')
            rw [upd_same, putK_pt fr, List.take_add_one, hy2]
            unfold reP
            rw [List.map_append]
            show _ = some (HO.dT (pt (_ ++ [(z.2, (getP Pp z.2).getD 0)])))
            rw [gz]; rfl
          · exact fun c' o ec => by
              have nb : c' ≠ D2 := ne_of_none ec nD2
              rw [upd_ne nb]; exact sT c' o (sm2 c' o ec)
      · rintro H7 ⟨hD2, sm2⟩
        rw [List.length_map, show qs.length = (qs.map (·.2)).length from (List.length_map _).symm, List.take_length] at hD2
        have s67 : Same H6 H7 := sF.trans sm2
        have nD2n : n ≠ D2 := ne_of_none (sF n _ hn6) nD2
        have hnD' : n ≠ D := nDn
        refine ⟨.ref n, rfl, n, C, dx, _, rfl, s67 n _ hn6, T.cl, T.nW, (by show 1 < 1000; decide), ?_⟩
        have eP : (reP Pp (qs.map (·.2))).map Prod.fst = qs.map (·.2) := by
          unfold reP
          rw [List.map_map]
          exact List.map_id' _
        have eB : nms (reB B ys) = ys := by
          unfold nms reB
          rw [List.map_map]
          exact List.map_id' _
        have s17 : ∀ c o, H c = some o → c ≠ n → H7 c = some o := fun c o ec nc => s67 c o (k6 c o ec nc)
        have gd2 : Good (reB B ys) (reP Pp (qs.map (·.2))) := good.perm (reB_perm wf.nb pm).symm (reP_perm wf.np pm2).symm
        have wf2 := gd2.wf
        -- what stands behind the second store
        obtain ⟨H8, hH8⟩ : ∃ H8, H8 = upd H7 n (.ins C dx (putF "width_by_pair" (.ref D2) (putF "brim_by_pond" (.ref D) []))) := ⟨_, rfl⟩
        have hn8 : H8 n = some (.ins C dx (putF "width_by_pair" (.ref D2) (putF "brim_by_pond" (.ref D) []))) := by rw [hH8, upd_same]
        have hD8 : H8 D = some (.dK (bk (reB B ys))) := by rw [hH8, upd_ne (Ne.symm nDn)]; exact s67 D _ hD6
        have hW8 : H8 D2 = some (.dT (pt (reP Pp (qs.map (·.2))))) := by rw [hH8, upd_ne (Ne.symm nD2n)]; exact hD2
        have k8 : ∀ c o, H c = some o → c ≠ n → H8 c = some o := fun c o ec nc => by rw [hH8, upd_ne nc]; exact s17 c o ec nc
        rw [← hH8]
        -- self.outs_by_pond
        refine ⟨D, _, hD8, trivial, fun od => ?_⟩
        have nDn8 : n ≠ D := nDn
        have hn9 : (upd H8 D (.frz od (.dK (bk (reB B ys))))) n = some (.ins C dx (putF "width_by_pair" (.ref D2) (putF "brim_by_pond" (.ref D) []))) := by rw [upd_ne nDn8]; exact hn8
        have nDW : D2 ≠ D := fun z => by subst z; rw [hD8] at hW8; cases hW8
        have hW9 : (upd H8 D (.frz od (.dK (bk (reB B ys))))) D2 = some (.dT (pt (reP Pp (qs.map (·.2))))) := by rw [upd_ne nDW]; exact hW8
        refine ⟨.ref n, rfl, n, C, dx, _, _, rfl, hn9, T.cl, T.nB, f2_b D D2, D, od, rfl, .inl ⟨_, upd_same, fun D3 nD3 => ?_⟩⟩
        have d3D : D3 ≠ D := fun e => by subst e; rw [upd_same] at nD3; cases nD3
        have nD38 : H8 D3 = none := by rw [upd_ne d3D] at nD3; exact nD3
        refine side_dc (g := outsOf (reP Pp (qs.map (·.2)))) wf2.nb wf2.lb upd_same nD3 (fun z => rfl) (fun z => rfl) (fun z Ha R mz sa h => ?_) (fun Ha Sa sa => ?_)
        · exact ⟨.ref n, rfl, n, C, dx, _, _, rfl, sa n _ hn9, T.cl, T.nW, f2_w D D2, .str z, rfl, D2, _, z, rfl, sa D2 _ hW9, wf2.np, wf2.lp, h⟩
        obtain ⟨l1, sb⟩ := same_lock hD8 sa
        refine ⟨l1, ?_⟩
        have Sb := Sa.unlock l1
        obtain ⟨Hb, hHb⟩ : ∃ Hb, Hb = upd Ha D (.dK (bk (reB B ys))) := ⟨_, rfl⟩
        rw [← hHb] at sb Sb
        rw [← hHb]
        refine ⟨.ref n, rfl, n, C, dx, _, rfl, sb n _ hn8, T.cl, T.nO, (by show 2 < 1000; decide), ?_⟩
        obtain ⟨Hc, hHc⟩ : ∃ Hc, Hc = upd Hb n (.ins C dx (putF "outs_by_pond" (.ref D3) (putF "width_by_pair" (.ref D2) (putF "brim_by_pond" (.ref D) [])))) := ⟨_, rfl⟩
        have nn3 : n ≠ D3 := ne_of_none hn8 nD38
        have hnc : Hc n = some (.ins C dx (putF "outs_by_pond" (.ref D3) (putF "width_by_pair" (.ref D2) (putF "brim_by_pond" (.ref D) [])))) := by rw [hHc, upd_same]
        have keepC : ∀ {b : Addr} {o : HO}, Hb b = some o → (∀ fs, o ≠ .ins C dx fs) → Hc b = some o := fun {b o} e no => by
          rw [hHc, upd_ne (fun z => by rw [z, sb n _ hn8] at e; exact no _ (Option.some.inj e).symm)]; exact e
        have hDc : Hc D = some (.dK (bk (reB B ys))) := keepC (sb D _ hD8) (fun v e => by cases e)
        have hWc : Hc D2 = some (.dT (pt (reP Pp (qs.map (·.2))))) := keepC (sb D2 _ hW8) (fun v e => by cases e)
        have Sc : SideAt Hc D3 (outsOf (reP Pp (qs.map (·.2)))) (nms (reB B ys)) := by
          obtain ⟨ls, e1, _⟩ := id Sb
          exact Sb.keep (fun x e => by rw [e1] at e; cases e; exact keepC e1 (fun v e => by cases e)) (fun b oq xs e => keepC e (fun v e => by cases e)) (fun b xs e => keepC e (fun v e => by cases e))
        have kc : ∀ c o, H c = some o → c ≠ n → Hc c = some o := fun c o ec nc => by rw [hHc, upd_ne nc]; exact sb c o (k8 c o ec nc)
        rw [← hHc]
        -- self.ins_by_pond
        refine ⟨D, _, hDc, trivial, fun od2 => ?_⟩
        have hnd : (upd Hc D (.frz od2 (.dK (bk (reB B ys))))) n = some (.ins C dx (putF "outs_by_pond" (.ref D3) (putF "width_by_pair" (.ref D2) (putF "brim_by_pond" (.ref D) [])))) := by rw [upd_ne nDn8]; exact hnc
        have hWd : (upd Hc D (.frz od2 (.dK (bk (reB B ys))))) D2 = some (.dT (pt (reP Pp (qs.map (·.2))))) := by rw [upd_ne nDW]; exact hWc
        refine ⟨.ref n, rfl, n, C, dx, _, _, rfl, hnd, T.cl, T.nB, f3_b D D2 D3, D, od2, rfl, .inl ⟨_, upd_same, fun D4 nD4 => ?_⟩⟩
        have d4D : D4 ≠ D := fun e => by subst e; rw [upd_same] at nD4; cases nD4
        have nD4c : Hc D4 = none := by rw [upd_ne d4D] at nD4; exact nD4
        refine side_dc (g := insOf (reP Pp (qs.map (·.2)))) wf2.nb wf2.lb upd_same nD4 (fun z => rfl) (fun z => rfl) (fun z Hd R mz sd h => ?_) (fun Hd Sd sd => ?_)
        · exact ⟨.ref n, rfl, n, C, dx, _, _, rfl, sd n _ hnd, T.cl, T.nW, f3_w D D2 D3, .str z, rfl, D2, _, z, rfl, sd D2 _ hWd, wf2.np, wf2.lp, h⟩
        obtain ⟨l2, se⟩ := same_lock hDc sd
        refine ⟨l2, ?_⟩
        have Se := Sd.unlock l2
        obtain ⟨He, hHe⟩ : ∃ He, He = upd Hd D (.dK (bk (reB B ys))) := ⟨_, rfl⟩
        rw [← hHe] at se Se
        rw [← hHe]
        refine ⟨.ref n, rfl, n, C, dx, _, rfl, se n _ hnc, T.cl, T.nI, (by show 3 < 1000; decide), ?_⟩
        have keepF : ∀ {b : Addr} {o : HO}, He b = some o → (∀ fs, o ≠ .ins C dx fs) → (upd He n (.ins C dx (nf D ⟨D2, D3, D4⟩))) b = some o := fun {b o} e no => by
          rw [upd_ne (fun z => by rw [z, se n _ hnc] at e; exact no _ (Option.some.inj e).symm)]; exact e
        have fin : ∀ {d : Addr} {g : Str → List (Str × Int)} {l : List Str}, SideAt He d g l → SideAt (upd He n (.ins C dx (nf D ⟨D2, D3, D4⟩))) d g l := fun {d g l} S => by
          obtain ⟨ls, e1, _⟩ := id S
          exact S.keep (fun x e => by rw [e1] at e; cases e; exact keepF e1 (fun v e => by cases e)) (fun b oq xs e => keepF e (fun v e => by cases e)) (fun b xs e => keepF e (fun v e => by cases e))
        have newc : ∀ {d : Addr}, Hc d = none → H d = none := fun {d} e => by
          cases eh : H d with
          | none => rfl
          | some o =>
            by_cases en : d = n
            · rw [en, hnc] at e; cases e
            · rw [kc d o eh en] at e; cases e
        have new8 : ∀ {d : Addr}, H8 d = none → H d = none := fun {d} e => by
          cases eh : H d with
          | none => rfl
          | some o =>
            by_cases en : d = n
            · rw [en, hn8] at e; cases e
            · rw [k8 d o eh en] at e; cases e
        refine q (upd He n (.ins C dx (nf D ⟨D2, D3, D4⟩))) (reB B ys) (reP Pp (qs.map (·.2))) ⟨dx, D, ⟨D2, D3, D4⟩, upd_same, keepF (se D _ hDc) (fun v e => by cases e), keepF (se D2 _ hWc) (fun v e => by cases e), fin (Sc.same se), fin Se⟩
          (reB_perm wf.nb pm) (reP_perm wf.np pm2) (by rw [eB]; exact srt) (by rw [eP]; exact srt2) ⟨dx, D, ⟨D2, D3, D4⟩, upd_same, (s14.trans sE).free nD, new8 nD38, newc nD4c⟩ (fun c o ec nc => ?_)
        rw [upd_ne nc]; exact se c o (kc c o ec nc)
end
end Nl
end
section
set_option maxHeartbeats 1000000
namespace Nl
open PySem PySem.Spec PyProof.Rows L2 Nt
theorem no_attr {d1 : Addr} {d2 : Dd} {m : Str} (h1 : ¬ m = "width_by_pair" := by decide +kernel) (h2 : ¬ m = "brim_by_pond" := by decide +kernel) (h3 : ¬ m = "outs_by_pond" := by decide +kernel) (h4 : ¬ m = "ins_by_pond" := by decide +kernel) : (nf d1 d2).lookup m = none := nf_no d1 d2 h1 h2 h3 h4
theorem SideAt.val {H : Hp} {d : Addr} {g : Str → List (Str × Int)} {l : List Str} {z : Str} (h : SideAt H d g l) (nd : l.Nodup) (mz : z ∈ l) : ∃ kvs p as od, H d = some (.dK kvs) ∧ valV kvs (Sum.inr z) = some (.ref p) ∧ H p = some (.frz od (.lst (as.map V.ref))) ∧ PairsAt H as (g z) := by
  obtain ⟨ls, a, b, c⟩ := h
  rw [← b] at mz nd
  obtain ⟨p, hp, e⟩ := List.mem_map.mp mz
  have e' : p.1 = z := e
  subst e'
  obtain ⟨as, od, e1, e2⟩ := c p hp
  refine ⟨_, p.2, as, od, a, ?_, e1, e2⟩
  clear a b c e1 e2 e mz
  unfold valV
  induction ls with
  | nil => exact (List.not_mem_nil hp).elim
  | cons x r ih =>
    rw [List.map_cons, List.nodup_cons] at nd
    rw [List.map_cons, List.find?_cons]
    rcases List.mem_cons.mp hp with rfl | hp
    · rw [show decide (((Sum.inr p.1 : Key), V.ref p.2).1 = Sum.inr p.1) = true from decide_eq_true rfl]; rfl
    · have : x.1 ≠ p.1 := fun e => nd.1 (by rw [e]; exact List.mem_map.mpr ⟨p, hp, rfl⟩)
      rw [show decide (((Sum.inr x.1 : Key), V.ref x.2).1 = Sum.inr p.1) = false from decide_eq_false (fun e => this (Sum.inr.inj e))]
      exact ih nd.2 hp
section
variable {P : Program} {w : World} {K : PySem.W.Frag} {mg : Str → Option Value} {base : Heap}
theorem scHas : FnScope ["self", "thing"] ["self", "thing"] (defScope mNet_has_pond) := ⟨rfl, rfl, rfl, by decide +kernel, rfl, by decide +kernel, by decide +kernel⟩
structure NetRd (C : Addr) (H : Hp) (n : Addr) (B : Br) : Prop where
  at_ : ∃ dx d1 d2, H n = some (.ins C dx (nf d1 d2)) ∧ Rd H d1 (.dK (bk B))
theorem NetAt.rd {C : Addr} {H : Hp} {n : Addr} {B : Br} {Pp : Pi} (h : NetAt C H n B Pp) : NetRd C H n B := by
  obtain ⟨dx, d1, d2, a, b, _⟩ := h
  exact ⟨dx, d1, d2, a, .inl b⟩
def spHas (C : Addr) : Sp := fun vs H Q _ => ∃ (n : Addr) (B : Br) (z : Str), vs = [.ref n, .str z] ∧ NetRd C H n B ∧ Sm 25 z ∧ ∀ H', Same H H' → Q (.bl (nameB z && decide (z ∈ nms B))) H'
theorem ok_has {f C f1 : Addr} {fd fd1 : FuncData} (F : Fun K "has_pond" "Net.has_pond" mNet_has_pond f fd) (T : TxN K mg C)
    (F1 : Fun K "is_pond_of" "is_pond_of" sPondOf f1 fd1) (G1 : FnOk P w K mg base CX0 2 f1 fd1 ["brims", "thing"] spPondOf) (b1 : Binds K fd1 ["brims", "thing"] []) (g1 : mg "is_pond_of" = some (.ref f1)) :
    FnOk P w K mg base CX0 3 f fd ["self", "thing"] (spHas C) := by
  refine F.ok scHas (fun vs H Q E h => ?_) (fun cdv A outer s H vs Q E hr h => ?_)
  · obtain ⟨n, B, z, rfl, _⟩ := h
    rfl
  · obtain ⟨n, B, z, rfl, ⟨dx, d1, d2, hn, h1⟩, hz, q⟩ := h
    refine ⟨_, pss_one (ps_ret (pe_call G1 hr (by rfl) g1 F1.kp b1 .nil pass0 (pa_cons (pe_fld (pv 0) rfl) (pa_cons (pv 1) pa_nil)))), ?_⟩
    exact ⟨.ref n, rfl, n, C, dx, _, _, rfl, hn, T.cl, T.nB, nf_b d1 d2, .str z, rfl, d1, B, z, rfl, h1, hz, q⟩
theorem scChk : FnScope ["self", "thing"] ["self", "thing"] (defScope mNet_check_pond) := ⟨rfl, rfl, rfl, by decide +kernel, rfl, by decide +kernel, by decide +kernel⟩
def spChk (C : Addr) : Sp := fun vs H Q _ => ∃ (n : Addr) (B : Br) (Pp : Pi) (z : Str), vs = [.ref n, .str z] ∧ NetAt C H n B Pp ∧ Nm z ∧ z ∈ nms B ∧ ∀ H', Same H H' → Q .non H'
theorem ok_chk {f C f1 : Addr} {fd fd1 : FuncData} (F : Fun K "check_pond" "Net.check_pond" mNet_check_pond f fd) (T : TxN K mg C)
    (m1 : Meth K C "has_pond" f1) (G1 : FnOk P w K mg base CX0 3 f1 fd1 ["self", "thing"] (spHas C)) (b1 : Binds K fd1 ["self", "thing"] []) : FnOk P w K mg base CX0 4 f fd ["self", "thing"] (spChk C) := by
  refine F.ok scChk (fun vs H Q E h => ?_) (fun cdv A outer s H vs Q E hr h => ?_)
  · obtain ⟨n, B, Pp, z, rfl, _⟩ := h
    rfl
  · obtain ⟨n, B, Pp, z, rfl, N, nz, mz, q⟩ := h
    obtain ⟨dx, d1, d2, hn, h1, h2⟩ := N.at_
    refine ⟨_, pss_one (ps_if (pt_not (pt_val (pe_meth (pv 0) T.cl m1 G1 hr b1 .nil pass0 (pa_cons (pv 1) pa_nil)))) (pss_one ps_never) pss_nil), ?_⟩
    refine ⟨.ref n, rfl, n, dx, _, rfl, hn, no_attr, .str z, rfl, n, B, z, rfl, N.rd, nz.sm.mono (by decide), fun H1 s1 => ?_⟩
    rw [show nameB z = true from nz, decide_eq_true mz]
    exact ⟨true, rfl, iteF (q H1 s1)⟩
theorem scPonds : FnScope ["self"] ["self"] (defScope mNet_ponds) := ⟨rfl, rfl, rfl, by decide +kernel, rfl, by decide +kernel, by decide +kernel⟩
def spPonds (C : Addr) : Sp := fun vs H Q _ => ∃ (n : Addr) (B : Br) (Pp : Pi), vs = [.ref n] ∧ NetAt C H n B Pp ∧ ∀ p, H p = none → Q (.ref p) (upd H p (.lst ((nms B).map V.str)))
theorem ok_ponds {f C : Addr} {fd : FuncData} {k : Nat} (F : Fun K "ponds" "Net.ponds" mNet_ponds f fd) (T : TxN K mg C) (ml : mg "list" = none) : FnOk P w K mg base CX0 (k + 1) f fd ["self"] (spPonds C) := by
  refine F.ok scPonds (fun vs H Q E h => ?_) (fun cdv A outer s H vs Q E hr h => ?_)
  · obtain ⟨n, B, Pp, rfl, _⟩ := h
    rfl
  · obtain ⟨n, B, Pp, rfl, ⟨dx, d1, d2, hn, h1, h2⟩, q⟩ := h
    refine ⟨_, pss_one (ps_ret (pe_callTy (call_listD rfl) (by rfl) ml (by decide +kernel) (pa_cons (pe_fld (pv 0) rfl) pa_nil))), ?_⟩
    refine ⟨.ref n, rfl, n, C, dx, _, _, rfl, hn, T.cl, T.nB, nf_b d1 d2, d1, _, rfl, .inl h1, fun p np => ?_⟩
    have := q p np
    unfold nms at this
    unfold bk
    rw [List.map_map] at this ⊢
    exact this
theorem scBrim : FnScope ["self", "name"] ["self", "name"] (defScope mNet_brim) := ⟨rfl, rfl, rfl, by decide +kernel, rfl, by decide +kernel, by decide +kernel⟩
def spBrim (C : Addr) : Sp := fun vs H Q _ => ∃ (n : Addr) (B : Br) (Pp : Pi) (z : Str) (c : Int), vs = [.ref n, .str z] ∧ NetAt C H n B Pp ∧ Nm z ∧ getB B z = some c ∧ ∀ H', Same H H' → Q (.int c) H'
theorem ok_brim {f C f1 : Addr} {fd fd1 : FuncData} (F : Fun K "brim" "Net.brim" mNet_brim f fd) (T : TxN K mg C) (m1 : Meth K C "check_pond" f1) (G1 : FnOk P w K mg base CX0 4 f1 fd1 ["self", "thing"] (spChk C)) (b1 : Binds K fd1 ["self", "thing"] []) :
    FnOk P w K mg base CX0 5 f fd ["self", "name"] (spBrim C) := by
  refine F.ok scBrim (fun vs H Q E h => ?_) (fun cdv A outer s H vs Q E hr h => ?_)
  · obtain ⟨n, B, Pp, z, c, rfl, _⟩ := h
    rfl
  · obtain ⟨n, B, Pp, z, c, rfl, N, nz, gz, q⟩ := h
    obtain ⟨dx, d1, d2, hn, h1, h2⟩ := N.at_
    have mz : z ∈ nms B := List.mem_map.mpr ⟨_, getB_mem gz, rfl⟩
    refine ⟨_, pss_cons (ps_expr (pe_meth (pv 0) T.cl m1 G1 hr b1 .nil pass0 (pa_cons (pv 1) pa_nil))) (pss_one (ps_ret (pe_dget (hu_of hr) (pe_fld (pv 0) rfl) (pv 1) (fun _ _ => rfl)))), ?_⟩
    refine ⟨.ref n, rfl, n, dx, _, rfl, hn, no_attr, .str z, rfl, n, B, Pp, z, rfl, N, nz, mz, fun H1 s1 => ?_⟩
    exact ⟨.ref n, rfl, n, C, dx, _, _, rfl, s1 n _ hn, T.cl, T.nB, nf_b d1 d2, .str z, rfl, d1, .int c, rfl, .inl ⟨_, Sum.inr z, .inl (s1 d1 _ h1), rfl, by rw [valV_bk, gz]; rfl⟩, q H1 s1⟩
theorem scIns : FnScope ["self", "name"] ["self", "name"] (defScope mNet_ins) := ⟨rfl, rfl, rfl, by decide +kernel, rfl, by decide +kernel, by decide +kernel⟩
def spIns (C : Addr) : Sp := fun vs H Q _ => ∃ (n : Addr) (B : Br) (Pp : Pi) (z : Str), vs = [.ref n, .str z] ∧ NetAt C H n B Pp ∧ Good B Pp ∧ Nm z ∧ z ∈ nms B ∧
  ∀ H' p as, Same H H' → H p = none → H' p = some (.lst (as.map V.ref)) → PairsAt H' as (insOf Pp z) → Q (.ref p) H'
theorem ok_ins {f C f1 : Addr} {fd fd1 : FuncData} (F : Fun K "ins" "Net.ins" mNet_ins f fd) (T : TxN K mg C) (m1 : Meth K C "check_pond" f1) (G1 : FnOk P w K mg base CX0 4 f1 fd1 ["self", "thing"] (spChk C)) (b1 : Binds K fd1 ["self", "thing"] []) (ml : mg "list" = none) :
    FnOk P w K mg base CX0 5 f fd ["self", "name"] (spIns C) := by
  refine F.ok scIns (fun vs H Q E h => ?_) (fun cdv A outer s H vs Q E hr h => ?_)
  · obtain ⟨n, B, Pp, z, rfl, _⟩ := h
    rfl
  · obtain ⟨n, B, Pp, z, rfl, N, good, nz, mz, q⟩ := h
    obtain ⟨dx, d1, d2, hn, h1, h2, h3, h4⟩ := N.at_
    refine ⟨_, pss_cons (ps_expr (pe_meth (pv 0) T.cl m1 G1 hr b1 .nil pass0 (pa_cons (pv 1) pa_nil))) (pss_one (ps_ret (pe_callTy call_list_of (by rfl) ml (by decide +kernel) (pa_cons (pe_dget (hu_of hr) (pe_fld (pv 0) rfl) (pv 1) (fun _ _ => rfl)) pa_nil)))), ?_⟩
    refine ⟨.ref n, rfl, n, dx, _, rfl, hn, no_attr, .str z, rfl, n, B, Pp, z, rfl, N, nz, mz, fun H1 s1 => ?_⟩
    obtain ⟨kvs, p, as, od, e1, e2, e3, e4⟩ := (h4.same s1).val good.wf.nb mz
    refine ⟨.ref n, rfl, n, C, dx, _, _, rfl, s1 n _ hn, T.cl, T.nI, nf_i d1 d2, .str z, rfl, d2.i, .ref p, rfl, .inl ⟨_, Sum.inr z, .inl e1, rfl, e2.symm⟩, p, _, rfl, .inl (.inl (.inr ⟨od, e3⟩)), fun l nl => ?_⟩
    have sn := same_new (o := .lst (as.map V.ref)) nl
    exact q _ l as (s1.trans sn) (s1.free nl) upd_same (e4.same sn)
theorem scBrims : FnScope ["self", "name"] ["self"] (defScope mNet_brims) := ⟨rfl, rfl, rfl, by decide +kernel, rfl, by decide +kernel, by decide +kernel⟩
def spBrims (C : Addr) : Sp := fun vs H Q _ => ∃ (n : Addr) (B : Br) (Pp : Pi), vs = [.ref n] ∧ NetAt C H n B Pp ∧ Good B Pp ∧ ∀ H' p, Same H H' → H p = none → H' p = some (.dK (bk B)) → Q (.ref p) H'
theorem ok_brims {f C : Addr} {fd : FuncData} {k : Nat} (F : Fun K "brims" "Net.brims" mNet_brims f fd) (T : TxN K mg C) : FnOk P w K mg base CX0 (k + 1) f fd ["self"] (spBrims C) := by
  refine F.ok scBrims (fun vs H Q E h => ?_) (fun cdv A outer s H vs Q E hr h => ?_)
  · obtain ⟨n, B, Pp, rfl, _⟩ := h
    rfl
  · obtain ⟨n, B, Pp, rfl, N, good, q⟩ := h
    obtain ⟨dx, d1, d2, hn, h1, h2⟩ := N.at_
    have wf := good.wf
    refine ⟨_, pss_one (ps_ret (pe_lock (Rl.pe_dcP (T := .dK []) (own := [("name", 1)]) (g := gName 1) (tt := tYes) (tk := tVar 1) (tv := tDGet (tFld K (tVar 0) "brim_by_pond") (tVar 1)) (.inr rfl) hr rfl scBrims.nd (pi_keys (pe_fld (pv 0) rfl))
      (blkOk_by (N := ["self", "name"]) (sc := defScope mNet_brims) (by decide +kernel)) (fun _ _ _ _ _ => pg_name (i := 1) scBrims.nd rfl (Or.inl rfl)) (fun _ _ _ _ _ => pts_nil)
      (fun _ _ _ _ _ => pv 1) (fun _ _ _ _ _ => pe_dget (hu_of hr) (pe_fld (pv 0) rfl) (pv 1) (fun _ _ => rfl))))), ?_⟩
    have nd1 : n ≠ d1 := fun e => by subst e; rw [hn] at h1; cases h1
    refine ⟨d1, _, h1, trivial, fun od => ?_⟩
    refine ⟨.ref n, rfl, n, C, dx, _, _, rfl, (by rw [upd_ne nd1]; exact hn), T.cl, T.nB, nf_b d1 d2, d1, od, rfl, .inl ⟨_, upd_same, fun D nD => ?_⟩⟩
    have hDd : D ≠ d1 := fun e => by subst e; rw [upd_same] at nD; cases nD
    have nDH : H D = none := by rw [upd_ne hDd] at nD; exact nD
    refine Rl.gc_it (n := (bk B).length) (b0 := fun _ => .dK []) walk_keys (fun i H2 => H2 D = some (.dK (bk (B.take i))) ∧ Same (upd H d1 (.frz od (.dK (bk B)))) H2) ⟨upd_same, same_new nD⟩ (fun i H2 _ h => h.2 d1 _ upd_same) ?_ ?_
    · rintro i x H2 H2' hi ⟨hD, sm⟩ ⟨rfl, kk, v, hkv, rfl⟩
      obtain ⟨p, hp, rfl, rfl⟩ := bk_at hkv
      have hm := List.mem_of_getElem? hp
      refine ⟨rfl, .str p.1, rfl, .ref n, rfl, n, C, dx, _, _, rfl, sm n _ (by rw [upd_ne nd1]; exact hn), T.cl, T.nB, nf_b d1 d2, .str p.1, rfl, d1, .int p.2, rfl, .inl ⟨_, Sum.inr p.1, .inr ⟨od, sm d1 _ upd_same⟩, rfl, ?_⟩, _, DPut.k (k := Sum.inr p.1) hD ?_, ?_, ?_⟩
      · rw [valV_bk, getB_of_mem wf.nb hm]; rfl
      · rw [bk_len, List.length_take]; have := wf.lb; exact small1000 (by omega)
      · have fr : p.1 ∉ nms (B.take i) := by
          have h3 : (nms B)[i]? = some p.1 := by unfold nms; rw [List.getElem?_map, hp]; rfl
          have h4 := take_nd wf.nb h3
          unfold nms at h4 ⊢
          rw [← List.map_take] at h4; exact h4
        rw [upd_same, putK_bk fr, List.take_add_one, hp]; rfl
      · exact fun c o ec => by
          have nb : c ≠ D := ne_of_none ec nD
          rw [upd_ne nb]; exact sm c o ec
    · rintro H2 ⟨hD, sm⟩
      obtain ⟨l1, l2⟩ := same_lock h1 sm
      rw [bk_len, List.take_length] at hD
      exact ⟨l1, q _ D l2 nDH (by rw [upd_ne hDd]; exact hD)⟩
theorem scPipes : FnScope ["self", "pair"] ["self"] (defScope mNet_pipes) := ⟨rfl, rfl, rfl, by decide +kernel, rfl, by decide +kernel, by decide +kernel⟩
def spPipes (C : Addr) : Sp := fun vs H Q _ => ∃ (n : Addr) (B : Br) (Pp : Pi), vs = [.ref n] ∧ NetAt C H n B Pp ∧ Good B Pp ∧ ∀ H' p, Same H H' → H p = none → H' p = some (.dT (pt Pp)) → Q (.ref p) H'
theorem ok_pipes {f C : Addr} {fd : FuncData} {k : Nat} (F : Fun K "pipes" "Net.pipes" mNet_pipes f fd) (T : TxN K mg C) : FnOk P w K mg base CX0 (k + 1) f fd ["self"] (spPipes C) := by
  refine F.ok scPipes (fun vs H Q E h => ?_) (fun cdv A outer s H vs Q E hr h => ?_)
  · obtain ⟨n, B, Pp, rfl, _⟩ := h
    rfl
  · obtain ⟨n, B, Pp, rfl, N, good, q⟩ := h
    obtain ⟨dx, d1, ⟨d2, dO, dI⟩, hn, h1, h2, _, _⟩ := N.at_
    have wf := good.wf
    refine ⟨_, pss_one (ps_ret (pe_lock (Rl.pe_dcP (T := .dT []) (own := [("pair", 1)]) (g := gName 1) (tt := tYes) (tk := tVar 1) (tv := tDGet (tFld K (tVar 0) "width_by_pair") (tVar 1)) (.inl rfl) hr rfl scPipes.nd (pi_keys (pe_fld (pv 0) rfl))
      (blkOk_by (N := ["self", "pair"]) (sc := defScope mNet_pipes) (by decide +kernel)) (fun _ _ _ _ _ => pg_name (i := 1) scPipes.nd rfl (Or.inl rfl)) (fun _ _ _ _ _ => pts_nil)
      (fun _ _ _ _ _ => pv 1) (fun _ _ _ _ _ => pe_dget (hu_of hr) (pe_fld (pv 0) rfl) (pv 1) (fun _ _ => rfl))))), ?_⟩
    have nd2 : n ≠ d2 := fun e => by subst e; rw [hn] at h2; cases h2
    refine ⟨d2, _, h2, trivial, fun od => ?_⟩
    refine ⟨.ref n, rfl, n, C, dx, _, _, rfl, (by rw [upd_ne nd2]; exact hn), T.cl, T.nW, nf_w d1 ⟨d2, dO, dI⟩, d2, od, rfl, .inr ⟨_, upd_same, fun D nD => ?_⟩⟩
    have hDd : D ≠ d2 := fun e => by subst e; rw [upd_same] at nD; cases nD
    have nDH : H D = none := by rw [upd_ne hDd] at nD; exact nD
    refine Rl.gc_it (n := (pt Pp).length) (b0 := fun _ => .dT []) walk_keysT (fun i H2 => H2 D = some (.dT (pt (Pp.take i))) ∧ Same (upd H d2 (.frz od (.dT (pt Pp)))) H2) ⟨upd_same, same_new nD⟩ (fun i H2 _ h => h.2 d2 _ upd_same) ?_ ?_
    · rintro i x H2 H2' hi ⟨hD, sm⟩ ⟨rfl, kk, v, qq, hkv, rfl, hq⟩
      obtain ⟨p, hp, rfl, rfl⟩ := pt_at hkv
      have hm := List.mem_of_getElem? hp
      refine ⟨rfl, .ref qq, rfl, .ref n, rfl, n, C, dx, _, _, rfl, sm n _ (by rw [upd_ne nd2]; exact hn), T.cl, T.nW, nf_w d1 ⟨d2, dO, dI⟩, .ref qq, rfl, d2, .int p.2, rfl, .inr ⟨_, Rl.pk p.1, qq, .inr ⟨od, sm d2 _ upd_same⟩, rfl, hq, ?_⟩, _, DPut.t (k := Rl.pk p.1) hD hq ?_, ?_, ?_⟩
      · rw [valV_pt, getP_of_mem wf.np (show (p.1, p.2) ∈ Pp from hm)]; rfl
      · rw [pt_len, List.length_take]; have := wf.lp; exact small1000 (by omega)
      · have fr : p.1 ∉ (Pp.take i).map Prod.fst := by
          have h3 : (Pp.map Prod.fst)[i]? = some p.1 := by rw [List.getElem?_map, hp]; rfl
          have h4 := take_nd wf.np h3
          rw [← List.map_take] at h4; exact h4
        rw [upd_same, putK_pt fr, List.take_add_one, hp]; rfl
      · exact fun c o ec => by
          have nb : c ≠ D := ne_of_none ec nD
          rw [upd_ne nb]; exact sm c o ec
    · rintro H2 ⟨hD, sm⟩
      obtain ⟨l1, l2⟩ := same_lock h2 sm
      rw [pt_len, List.take_length] at hD
      exact ⟨l1, q _ D l2 nDH (by rw [upd_ne hDd]; exact hD)⟩
end
end Nl
end
section
set_option maxHeartbeats 1000000
namespace Nl
open PySem PySem.Spec PyProof.Rows L2 Nt
/-! ### stands -/
theorem s12 : ¬ (("own_net" : Str) = "poured_by_pond") := by decide +kernel
theorem s13 : ¬ (("own_net" : Str) = "count_by_pond") := by decide +kernel
theorem s23 : ¬ (("poured_by_pond" : Str) = "count_by_pond") := by decide +kernel
def sf (n d1 d2 : Addr) : List (Str × V) := putF "count_by_pond" (.ref d2) (putF "poured_by_pond" (.ref d1) (putF "own_net" (.ref n) []))
theorem sf_n (n d1 d2 : Addr) : (sf n d1 d2).lookup ("own_net" : Str) = some (.ref n) := by
  unfold sf
  rw [lookup_putF, if_neg s13, lookup_putF, if_neg s12, lookup_putF, if_pos rfl]
theorem sf_p (n d1 d2 : Addr) : (sf n d1 d2).lookup ("poured_by_pond" : Str) = some (.ref d1) := by
  unfold sf
  rw [lookup_putF, if_neg s23, lookup_putF, if_pos rfl]
theorem sf_c (n d1 d2 : Addr) : (sf n d1 d2).lookup ("count_by_pond" : Str) = some (.ref d2) := by
  unfold sf
  rw [lookup_putF, if_pos rfl]
theorem sf_no {n d1 d2 : Addr} {m : Str} (h1 : ¬ m = "count_by_pond" := by decide +kernel) (h2 : ¬ m = "poured_by_pond" := by decide +kernel) (h3 : ¬ m = "own_net" := by decide +kernel) : (sf n d1 d2).lookup m = none := by
  unfold sf
  rw [lookup_putF, if_neg h1, lookup_putF, if_neg h2, lookup_putF, if_neg h3]; rfl
structure StandAt (CS C : Addr) (H : Hp) (s : Addr) (B : Br) (Pp : Pi) (Qp Qc : Br) : Prop where
  at_ : ∃ dx n d1 d2, H s = some (.ins CS dx (sf n d1 d2)) ∧ NetAt C H n B Pp ∧ H d1 = some (.dK (bk Qp)) ∧ H d2 = some (.dK (bk Qc))
theorem StandAt.same {CS C : Addr} {H H' : Hp} {s : Addr} {B : Br} {Pp : Pi} {Qp Qc : Br} (h : StandAt CS C H s B Pp Qp Qc) (sm : Same H H') : StandAt CS C H' s B Pp Qp Qc := by
  obtain ⟨dx, n, d1, d2, a, b, c, d⟩ := h
  exact ⟨dx, n, d1, d2, sm _ _ a, b.same sm, sm _ _ c, sm _ _ d⟩
structure TxS (K : PySem.W.Frag) (mg : Str → Option Value) (CS : Addr) : Prop where
  cl : Cls K CS
  nN : NoAttr K CS "own_net"
  nP : NoAttr K CS "poured_by_pond"
  nC : NoAttr K CS "count_by_pond"
  mgC : mg "Stand" = some (.ref CS)
/-- a table that may be handed in -/
structure Tab (H : Hp) (v : V) (B Qd : Br) : Prop where
  at_ : (v = .non ∧ Qd = []) ∨ ∃ a, v = .ref a ∧ H a = some (.dK (bk Qd))
  nd : (nms Qd).Nodup
  ln : Qd.length ≤ 200
  ok : ∀ p ∈ Qd, p.1 ∈ nms B ∧ 0 ≤ p.2
theorem Tab.same {H H' : Hp} {v : V} {B Qd : Br} (h : Tab H v B Qd) (s : Same H H') : Tab H' v B Qd :=
  ⟨h.at_.imp id fun ⟨a, e, q⟩ => ⟨a, e, s _ _ q⟩, h.nd, h.ln, h.ok⟩
def val0 (Qd : Br) (x : Str) : Int := (getB Qd x).getD 0
def fill (B Qd : Br) : Br := (nms B).map fun x => (x, val0 Qd x)
theorem nms_map (l : List Str) (f : Str → Int) : nms (l.map fun x => (x, f x)) = l := by
  unfold nms
  rw [List.map_map]
  exact List.map_id' _
theorem fill_nms (B Qd : Br) : nms (fill B Qd) = nms B := nms_map _ _
theorem getB_map {l : List Str} {f : Str → Int} {x : Str} (nd : l.Nodup) (h : x ∈ l) : getB (l.map fun y => (y, f y)) x = some (f x) :=
  getB_of_mem (by rw [nms_map]; exact nd) (List.mem_map.mpr ⟨x, h, rfl⟩)
theorem cut_nil : cutV ([] : List V) none (some 1) = [] := by
  unfold cutV; simp
section
variable {P : Program} {w : World} {K : PySem.W.Frag} {mg : Str → Option Value} {base : Heap}
theorem scWrong : FnScope ["net", "table", "key"] ["net", "table"] (defScope sWrong) := ⟨rfl, rfl, rfl, by decide +kernel, rfl, by decide +kernel, by decide +kernel⟩
def spWrong (C : Addr) : Sp := fun vs H Q _ => ∃ (n : Addr) (t : V) (B : Br) (Pp : Pi) (Qd : Br), vs = [.ref n, t] ∧ NetAt C H n B Pp ∧ Good B Pp ∧ Tab H t B Qd ∧ ∀ H' p, Same H H' → H p = none → H' p = some (.lst []) → Q (.ref p) H'
theorem ok_wrong {f C f1 f2 : Addr} {fd fd1 fd2 : FuncData} (F : Fun K "wrong_keys" "wrong_keys" sWrong f fd) (T : TxN K mg C)
    (m1 : Meth K C "has_pond" f1) (G1 : FnOk P w K mg base CX0 3 f1 fd1 ["self", "thing"] (spHas C)) (b1 : Binds K fd1 ["self", "thing"] [])
    (F2 : Fun K "is_whole" "is_whole" sWhole f2 fd2) (G2 : FnOk P w K mg base CX0 1 f2 fd2 ["thing", "least"] spWhole) (b2 : Binds K fd2 ["thing", "least"] []) (g2 : mg "is_whole" = some (.ref f2))
    (mi : mg "isinstance" = none) (md : mg "dict" = none) : FnOk P w K mg base CX0 4 f fd ["net", "table"] (spWrong C) := by
  refine F.ok scWrong (fun vs H Q E h => ?_) (fun cdv A outer s H vs Q E hr h => ?_)
  · obtain ⟨n, t, B, Pp, Qd, rfl, _⟩ := h
    rfl
  · obtain ⟨n, t, B, Pp, Qd, rfl, N, good, tab, q⟩ := h
    obtain ⟨dx, d1, d2, hn, h1, h2⟩ := N.at_
    refine ⟨_, pss_cons (ps_if (pt_cmp (pc_isN (pv 1))) (pss_one (ps_ret (pe_lst pa_nil))) pss_nil)
      (pss_cons (ps_if (pt_not (pt_val (pe_callB call_isi (by rfl) mi (by decide +kernel) (pa_cons (pv 1) (pa_cons (pe_bltn (v := .ty "dict") (by rfl) md (by decide +kernel) rfl) pa_nil))))) (pss_one (ps_never)) pss_nil)
      (pss_one (ps_ret (pe_slice sl_list (pe_lock (pe_lc (own := [("key", 2)]) (g := gName 2) rfl scWrong.nd (pi_keys (pv 1))
        (blkOk_by (N := ["net", "table", "key"]) (sc := defScope sWrong) (by decide +kernel)) (fun _ _ _ _ _ => pg_name (i := 2) scWrong.nd rfl (Or.inl rfl))
        (fun _ _ _ _ _ => pts_one (PW.pt (pw_or (pt_not (pt_val (pe_meth (pv 0) T.cl m1 G1 hr b1 .nil pass0 (pa_cons (pv 2) pa_nil)))) (pw_or1 (pt_not (pt_val (pe_call G2 (hr.mono (by decide)) (by rfl) g2 F2.kp b2 .nil pass0 (pa_cons (pe_dget (hu_of hr) (pv 1) (pv 2) (fun _ _ => rfl)) (pa_cons pe_int pa_nil)))))))))
        (fun _ _ _ _ _ => pv 2))) po_none (po_some pe_int))))), ?_⟩
    rcases tab.at_ with ⟨rfl, rfl⟩ | ⟨a, rfl, hA⟩
    · refine ⟨.non, rfl, true, rfl, iteT ⟨Nat.zero_le _, fun p np => ?_⟩⟩
      exact q _ p (same_new np) np upd_same
    · refine ⟨.ref a, rfl, false, rfl, iteF ?_⟩
      refine ⟨.ref a, rfl, .ref a, .ty "dict", .type "dict", .type "dict", true, rfl, .ty _, .base (.dK hA), kit_ty (by decide +kernel), true, rfl, iteF ?_⟩
      refine ⟨a, _, hA, trivial, fun od => ?_⟩
      refine ⟨.ref a, rfl, a, od, rfl, .inl ⟨_, upd_same, fun D nD => ?_⟩⟩
      have hDa : D ≠ a := fun e => by subst e; rw [upd_same] at nD; cases nD
      have nDH : H D = none := by rw [upd_ne hDa] at nD; exact nD
      have sN : ∀ {H1 : Hp}, Same (upd H a (.frz od (.dK (bk Qd)))) H1 → NetRd C H1 n B := fun {H1} sm => by
        have na : n ≠ a := fun e => by subst e; rw [hn] at hA; cases hA
        refine ⟨dx, d1, d2, sm n _ (by rw [upd_ne na]; exact hn), ?_⟩
        by_cases had : d1 = a
        · rw [had] at h1
          rw [hA] at h1
          have e1 : HO.dK (bk Qd) = HO.dK (bk B) := Option.some.inj h1
          rw [had, ← e1]
          exact .inr ⟨od, sm a _ upd_same⟩
        · exact .inl (sm d1 _ (by rw [upd_ne had]; exact h1))
      refine lc_it (n := (bk Qd).length) walk_keys (fun i H1 => H1 D = some (.lst []) ∧ Same (upd H a (.frz od (.dK (bk Qd)))) H1) ⟨upd_same, same_new nD⟩ (fun i H1 _ h => h.2 a _ upd_same) ?_ ?_
      · rintro i x H1 H1' hi ⟨hD, sm⟩ ⟨rfl, kk, v, hkv, rfl⟩
        obtain ⟨p, hp, rfl, rfl⟩ := bk_at hkv
        have hm := List.mem_of_getElem? hp
        obtain ⟨o1, o2⟩ := tab.ok p hm
        obtain ⟨pb, hpb, eb⟩ := List.mem_map.mp o1
        have nz : Nm p.1 := by rw [← (show pb.1 = p.1 from eb)]; exact (good.wf.rb pb hpb).1
        have N1 := sN sm
        obtain ⟨dx', d1', d2', hn', _⟩ := N1.at_
        refine ⟨rfl, .ref n, rfl, n, dx', _, rfl, hn', no_attr, .str p.1, rfl, n, B, p.1, rfl, N1, nz.sm.mono (by decide), fun H2 s2 => ?_⟩
        rw [show nameB p.1 = true from nz, decide_eq_true o1]
        refine ⟨true, rfl, iteF ?_⟩
        refine ⟨.ref a, rfl, .str p.1, rfl, a, .int p.2, rfl, .inl ⟨_, Sum.inr p.1, .inr ⟨od, s2 a _ (sm a _ upd_same)⟩, rfl, by rw [valV_bk, getB_of_mem tab.nd hm]; rfl⟩, p.2, 0, rfl, ?_⟩
        rw [decide_eq_true (show p.2 ≥ 0 from o2)]
        exact ⟨true, rfl, iteF ⟨s2 D _ hD, sm.trans s2⟩⟩
      · rintro H1 ⟨hD, sm⟩
        obtain ⟨l1, l2⟩ := same_lock hA sm
        refine ⟨l1, 1, rfl, D, [], rfl, SqL.of (by rw [upd_ne hDa]; exact hD), fun p np => ?_⟩
        rw [cut_nil]
        exact q _ p (l2.trans (same_new np)) (l2.free np) upd_same
end
end Nl
end
section
set_option maxHeartbeats 1000000
namespace Nl
open PySem PySem.Spec PyProof.Rows L2 Nt
theorem getD_val (Qd : Br) (z : Str) : (((getB Qd z).map V.int).getD (.int 0)) = .int (val0 Qd z) := by
  unfold val0
  cases getB Qd z <;> rfl
def mapN (l : List Str) (f : Str → Int) : Br := l.map fun x => (x, f x)
theorem mapN_take (l : List Str) (f : Str → Int) (i : Nat) {z : Str} (h : l[i]? = some z) : mapN (l.take (i + 1)) f = mapN (l.take i) f ++ [(z, f z)] := by
  unfold mapN
  rw [List.take_add_one, h, List.map_append]; rfl
/-- a dict comprehension over the ponds' list -/
theorem ponds_dc {K : PySem.W.Frag} {l : List Str} {f : Str → Int} {e D : Addr} {H1 : Hp} {σ : L2.St} {tv : TE} {j : Nat} {Qd : Hp → Prop} (G : Hp → Prop) (hG : ∀ {H H' : Hp}, Same H H' → G H → G H') (nd : l.Nodup) (ln : l.length ≤ 12) (he : H1 e = some (.lst (l.map V.str))) (g1 : G H1) (nD : H1 D = none)
    (hj : ∀ z : Str, ((wipe σ [j]).set j (some (.str z)))[j]? = some (some (V.str z))) (hw : ∀ z : Str, wipe ((wipe σ [j]).set j (some (.str z))) [j] = wipe σ [j])
    (ht : ∀ (z : Str) (H2 : Hp) (R : V → Hp → Prop), z ∈ l → Same H1 H2 → G H2 → (∀ H3, Same H2 H3 → R (.int (f z)) H3) → tv ((wipe σ [j]).set j (some (.str z))) H2 R)
    (hd : ∀ H2, H2 D = some (.dK (bk (mapN l f))) → Same H1 H2 → Qd H2) :
    ∃ W : Nat → Nat → Hp → Prop, (∃ m, W 0 m (upd H1 D (.dK []))) ∧ ∀ i m H, W i m H →
      ((Itl K e).stop i H ∧ Qd H) ∨ ((Itl K e).go i H ∧ ∃ Nx : Hp → Prop, (∀ H', Nx H' → ∃ m', m' < m ∧ W (i + 1) m' H') ∧
        ∀ x H', (Itl K e).yld i H x H' → gName j x (wipe σ [j]) H' fun σ2 H2 => wipe σ2 [j] = wipe σ [j] ∧ tYes σ2 H2 fun b H3 => if b = true then Rl.tbD (tVar j) tv D σ2 H3 Nx else Nx H3) := by
  refine Rl.gc_it (b0 := fun _ => .dK []) (walk_list (K := K) (a := e) (xs := l.map V.str)) (fun i H2 => H2 D = some (.dK (bk (mapN (l.take i) f))) ∧ Same H1 H2) ⟨upd_same, same_new nD⟩ (fun i H2 _ h => SqL.of (h.2 e _ he)) ?_ ?_
  · rintro i x H2 H2' hi ⟨hD, sm⟩ ⟨rfl, hx⟩
    rw [List.getElem?_map] at hx
    cases hy : l[i]? with
    | none => rw [hy] at hx; cases hx
    | some z =>
      rw [hy] at hx
      have hx' : V.str z = x := Option.some.inj hx
      subst hx'
      refine ⟨hw z, ?_⟩
      show Rl.tbD (tVar j) tv D (List.set (wipe σ [j]) j (some (V.str z))) H2' fun H2 => H2 D = some (HO.dK (bk (mapN (List.take (i + 1) l) f))) ∧ Same H1 H2
      refine ⟨.str z, hj z, ht z H2' _ (List.mem_of_getElem? hy) sm (hG sm g1) fun H3 s3 => ⟨_, DPut.k (k := Sum.inr z) (s3 D _ hD) ?_, ?_, ?_⟩⟩
      · rw [bk_len]
        unfold mapN
        rw [List.length_map, List.length_take]
        exact small1000 (by omega)
      · have fr : z ∉ nms (mapN (l.take i) f) := by
          unfold mapN
          rw [nms_map]
          exact take_nd nd hy
        rw [upd_same, putK_bk fr, mapN_take l f i hy]
      · exact fun c o ec => by
          have nb : c ≠ D := ne_of_none ec nD
          rw [upd_ne nb]; exact s3 c o (sm c o ec)
  · rintro H2 ⟨hD, sm⟩
    rw [List.length_map, List.take_length] at hD
    exact hd H2 hD sm
theorem nms_len (B : Br) : (nms B).length = B.length := List.length_map _
section
variable {P : Program} {w : World} {K : PySem.W.Frag} {mg : Str → Option Value} {base : Heap}
theorem scForAll : FnScope ["net", "table", "name"] ["net", "table"] (defScope sForAll) := ⟨rfl, rfl, rfl, by decide +kernel, rfl, by decide +kernel, by decide +kernel⟩
def spForAll (C : Addr) : Sp := fun vs H Q _ => ∃ (n : Addr) (t : V) (B : Br) (Pp : Pi) (Qd : Br), vs = [.ref n, t] ∧ NetAt C H n B Pp ∧ Good B Pp ∧ Tab H t B Qd ∧ ∀ H' p, Same H H' → H p = none → H' p = some (.dK (bk (fill B Qd))) → Q (.ref p) H'
theorem ok_forAll {f C f1 : Addr} {fd fd1 : FuncData} (F : Fun K "for_all_ponds" "for_all_ponds" sForAll f fd) (T : TxN K mg C)
    (m1 : Meth K C "ponds" f1) (G1 : FnOk P w K mg base CX0 1 f1 fd1 ["self"] (spPonds C)) (b1 : Binds K fd1 ["self"] []) : FnOk P w K mg base CX0 2 f fd ["net", "table"] (spForAll C) := by
  refine F.ok scForAll (fun vs H Q E h => ?_) (fun cdv A outer s H vs Q E hr h => ?_)
  · obtain ⟨n, t, B, Pp, Qd, rfl, _⟩ := h
    rfl
  · obtain ⟨n, t, B, Pp, Qd, rfl, N, good, tab, q⟩ := h
    obtain ⟨dx, d1, d2, hn, h1, h2⟩ := N.at_
    have wf := good.wf
    have lN : (nms B).length ≤ 12 := by rw [nms_len]; exact wf.lb
    refine ⟨_, pss_cons (ps_if (pt_cmp (pc_isN (pv 1))) (pss_one (ps_ret (Rl.pe_dcP (T := .dK []) (own := [("name", 2)]) (g := gName 2) (tt := tYes) (.inr rfl) hr rfl scForAll.nd (pi_list (pe_meth0 (pv 0) T.cl m1 G1 hr b1 .nil pass0))
        (blkOk_by (N := ["net", "table", "name"]) (sc := defScope sForAll) (by decide +kernel)) (fun _ _ _ _ _ => pg_name (i := 2) scForAll.nd rfl (Or.inl rfl)) (fun _ _ _ _ _ => pts_nil) (fun _ _ _ _ _ => pv 2) (fun _ _ _ _ _ => pe_int)))) pss_nil)
      (pss_one (ps_ret (Rl.pe_dcP (T := .dK []) (own := [("name", 2)]) (g := gName 2) (tt := tYes) (.inr rfl) hr rfl scForAll.nd (pi_list (pe_meth0 (pv 0) T.cl m1 G1 hr b1 .nil pass0))
        (blkOk_by (N := ["net", "table", "name"]) (sc := defScope sForAll) (by decide +kernel)) (fun _ _ _ _ _ => pg_name (i := 2) scForAll.nd rfl (Or.inl rfl)) (fun _ _ _ _ _ => pts_nil) (fun _ _ _ _ _ => pv 2) (fun _ _ _ _ _ => pe_dget2 (hu_of hr) (pv 1) (pv 2) pe_int ⟨rfl, rfl, rfl, rfl⟩)))), ?_⟩
    rcases tab.at_ with ⟨rfl, rfl⟩ | ⟨a, rfl, hA⟩
    · refine ⟨.non, rfl, true, rfl, iteT ?_⟩
      refine ⟨.ref n, rfl, n, dx, _, rfl, hn, no_attr, n, B, Pp, rfl, N, fun e ne => ?_⟩
      refine ⟨e, rfl, ⟨_, SqL.of upd_same⟩, fun D nD => ?_⟩
      refine ponds_dc (K := K) (f := fun _ => 0) (fun _ => True) (fun _ _ => trivial) wf.nb lN upd_same trivial nD (fun z => rfl) (fun z => rfl) (fun z H2 R _ _ _ h => h H2 (Same.refl _)) (fun H2 hD sm => ?_)
      exact q H2 D ((same_new ne).trans sm) ((same_new ne).free nD) hD
    · refine ⟨.ref a, rfl, false, rfl, iteF ?_⟩
      refine ⟨.ref n, rfl, n, dx, _, rfl, hn, no_attr, n, B, Pp, rfl, N, fun e ne => ?_⟩
      refine ⟨e, rfl, ⟨_, SqL.of upd_same⟩, fun D nD => ?_⟩
      refine ponds_dc (K := K) (f := val0 Qd) (fun H => H a = some (.dK (bk Qd))) (fun s h => s _ _ h) wf.nb lN upd_same ((same_new ne) a _ hA) nD (fun z => rfl) (fun z => rfl) (fun z H2 R _ _ g h => ?_) (fun H2 hD sm => ?_)
      · refine ⟨.ref a, rfl, a, rfl, .inl ⟨_, .inl g⟩, .str z, rfl, _, .inl ⟨_, Sum.inr z, .inl g, rfl, rfl⟩, ?_⟩
        rw [valV_bk, getD_val]
        exact h H2 (Same.refl _)
      · exact q H2 D ((same_new ne).trans sm) ((same_new ne).free nD) hD
/-! ### Stand's making -/
theorem scSInit : FnScope ["self", "net", "poured", "counts", "wrong"] ["self", "net", "poured", "counts"] (defScope mStand_init) := ⟨rfl, rfl, rfl, by decide +kernel, rfl, by decide +kernel, by decide +kernel⟩
def spSInit (CS C : Addr) : Sp := fun vs H Q _ => ∃ (st dx n : Addr) (t u : V) (B : Br) (Pp : Pi) (Qp Qc : Br), vs = [.ref st, .ref n, t, u] ∧ H st = some (.ins CS dx []) ∧ NetAt C H n B Pp ∧ Good B Pp ∧ Tab H t B Qp ∧ Tab H u B Qc ∧
  ∀ H', StandAt CS C H' st B Pp (fill B Qp) (fill B Qc) → (∃ dx' d1 d2, H' st = some (.ins CS dx' (sf n d1 d2)) ∧ H d1 = none ∧ H d2 = none) → (∀ b o, H b = some o → b ≠ st → H' b = some o) → Q .non H'
theorem ok_sInit {f CS C f1 f2 : Addr} {fd fd1 fd2 : FuncData} (F : FunD K "__init__" "Stand.__init__" (defArgs mStand_init) (defBody mStand_init) (defScope mStand_init) [.non, .non] [] f fd) (T : TxS K mg CS)
    (F1 : Fun K "wrong_keys" "wrong_keys" sWrong f1 fd1) (G1 : FnOk P w K mg base CX0 4 f1 fd1 ["net", "table"] (spWrong C)) (b1 : Binds K fd1 ["net", "table"] []) (g1 : mg "wrong_keys" = some (.ref f1))
    (F2 : Fun K "for_all_ponds" "for_all_ponds" sForAll f2 fd2) (G2 : FnOk P w K mg base CX0 2 f2 fd2 ["net", "table"] (spForAll C)) (b2 : Binds K fd2 ["net", "table"] []) (g2 : mg "for_all_ponds" = some (.ref f2)) :
    FnOk P w K mg base CX0 5 f fd ["self", "net", "poured", "counts"] (spSInit CS C) := by
  refine F.ok scSInit (fun vs H Q E h => ?_) (fun cdv A outer s H vs Q E hr h => ?_)
  · obtain ⟨st, dx, n, t, u, B, Pp, Qp, Qc, rfl, _⟩ := h
    rfl
  · obtain ⟨st, dx, n, t, u, B, Pp, Qp, Qc, rfl, hst, N, good, tp1, tc1, q⟩ := h
    have hr2 := hr.mono (show 2 ≤ 4 by decide)
    refine ⟨_, PSs.nox (pss_cons (ps_set (i := 4) scSInit.nd rfl (.inl rfl) (pe_call G1 hr (by rfl) g1 F1.kp b1 .nil pass0 (pa_cons (pv 1) (pa_cons (pv 2) pa_nil))))
      (pss_cons (ps_if (pt_truth (pv 4) (by intro _; rfl)) (pss_one ps_never) pss_nil)
      (pss_cons (ps_set (i := 4) scSInit.nd rfl (.inl rfl) (pe_call G1 hr (by rfl) g1 F1.kp b1 .nil pass0 (pa_cons (pv 1) (pa_cons (pv 3) pa_nil))))
      (pss_cons (ps_if (pt_truth (pv 4) (by intro _; rfl)) (pss_one ps_never) pss_nil)
      (pss_cons (ps_fld (pv 0) (pv 1) rfl)
      (pss_cons (ps_fld (pv 0) (pe_call G2 hr2 (by rfl) g2 F2.kp b2 .nil pass0 (pa_cons (pv 1) (pa_cons (pv 2) pa_nil))) rfl)
      (pss_one (ps_fld (pv 0) (pe_call G2 hr2 (by rfl) g2 F2.kp b2 .nil pass0 (pa_cons (pv 1) (pa_cons (pv 3) pa_nil))) rfl)))))))), ?_⟩
    refine ⟨.ref n, rfl, t, rfl, n, t, B, Pp, Qp, rfl, N, good, tp1, fun H1 e1 s1 _ he1 => ?_⟩
    refine ⟨.ref e1, rfl, false, .inl ⟨[], SqL.of he1, rfl⟩, iteF ?_⟩
    refine ⟨.ref n, rfl, u, rfl, n, u, B, Pp, Qc, rfl, N.same s1, good, tc1.same s1, fun H2 e2 s2 _ he2 => ?_⟩
    have s12 := s1.trans s2
    refine ⟨.ref e2, rfl, false, .inl ⟨[], SqL.of he2, rfl⟩, iteF ?_⟩
    have hs2 := s12 st _ hst
    refine ⟨.ref n, rfl, .ref st, rfl, st, CS, dx, [], rfl, hs2, T.cl, T.nN, by decide, ?_⟩
    -- behind the first store
    have kp : ∀ {H3 : Hp} {fs : List (Str × V)}, (∀ b o, H b = some o → b ≠ st → H3 b = some o) → ∀ b o, H b = some o → b ≠ st → (upd H3 st (.ins CS dx fs)) b = some o := fun {H3 fs} h b o e ne => by rw [upd_ne ne]; exact h b o e ne
    have k2 : ∀ b o, H b = some o → b ≠ st → H2 b = some o := fun b o e _ => s12 b o e
    have nst : ∀ {H3 : Hp}, (∀ b o, H b = some o → b ≠ st → H3 b = some o) → NetAt C H3 n B Pp := fun {H3} h => by
      obtain ⟨dx', d1, d2, a, b, c, e, f⟩ := N.at_
      have n1 : n ≠ st := fun e => by
        subst e
        rw [hst] at a
        have a' := Option.some.inj a
        injection a' with _ _ e3
        have e4 := nf_b d1 d2
        rw [← e3] at e4
        cases e4
      have n2 : d1 ≠ st := fun e => by subst e; rw [hst] at b; cases b
      have no : ∀ {y : Addr} {o : HO}, H y = some o → (∀ fs, o ≠ .ins CS dx fs) → H3 y = some o := fun {y o} e no => h _ _ e (fun z => by subst z; rw [hst] at e; exact no _ (Option.some.inj e).symm)
      have sd : ∀ {d : Addr} {g : Str → List (Str × Int)} {l : List Str}, SideAt H d g l → SideAt H3 d g l := fun {d g l} S => by
        obtain ⟨ls, e1, _⟩ := id S
        exact S.keep (fun x e => by rw [e1] at e; cases e; exact no e1 (fun v e => by cases e)) (fun b oq xs e => no e (fun v e => by cases e)) (fun b xs e => no e (fun v e => by cases e))
      exact ⟨dx', d1, d2, h _ _ a n1, h _ _ b n2, no c (fun v e => by cases e), sd e, sd f⟩
    have tst : ∀ {H3 : Hp} {v : V} {Qd : Br}, Tab H v B Qd → (∀ b o, H b = some o → b ≠ st → H3 b = some o) → Tab H3 v B Qd := fun {H3 v Qd} tb h => ⟨tb.at_.imp id fun ⟨a, e, z⟩ => ⟨a, e, h _ _ z (fun e => by subst e; rw [hst] at z; cases z)⟩, tb.nd, tb.ln, tb.ok⟩
    have k3 := kp (fs := putF "own_net" (.ref n) []) k2
    have hs3 : (upd H2 st (.ins CS dx (putF "own_net" (.ref n) []))) st = some (.ins CS dx (putF "own_net" (.ref n) [])) := upd_same
    obtain ⟨H3, hH3⟩ : ∃ H3, H3 = upd H2 st (.ins CS dx (putF "own_net" (.ref n) [])) := ⟨_, rfl⟩
    rw [← hH3] at k3 hs3 ⊢
    refine ⟨.ref n, rfl, t, rfl, n, t, B, Pp, Qp, rfl, nst k3, good, tst tp1 k3, fun H4 d1 s4 nd1 hd1 => ?_⟩
    have hs4 := s4 st _ hs3
    refine ⟨.ref st, rfl, st, CS, dx, _, rfl, hs4, T.cl, T.nP, (by show 1 < 1000; decide), ?_⟩
    have d1s : d1 ≠ st := Ne.symm (ne_of_none hs3 nd1)
    have k5 := kp (H3 := H4) (fs := putF "poured_by_pond" (.ref d1) (putF "own_net" (.ref n) [])) (fun b o e ne => s4 b o (k3 b o e ne))
    have hs5 : (upd H4 st (.ins CS dx (putF "poured_by_pond" (.ref d1) (putF "own_net" (.ref n) [])))) st = some (.ins CS dx (putF "poured_by_pond" (.ref d1) (putF "own_net" (.ref n) []))) := upd_same
    have hd5 : (upd H4 st (.ins CS dx (putF "poured_by_pond" (.ref d1) (putF "own_net" (.ref n) [])))) d1 = some (.dK (bk (fill B Qp))) := by rw [upd_ne d1s]; exact hd1
    obtain ⟨H5, hH5⟩ : ∃ H5, H5 = upd H4 st (.ins CS dx (putF "poured_by_pond" (.ref d1) (putF "own_net" (.ref n) []))) := ⟨_, rfl⟩
    rw [← hH5] at k5 hs5 hd5 ⊢
    refine ⟨.ref n, rfl, u, rfl, n, u, B, Pp, Qc, rfl, nst k5, good, tst tc1 k5, fun H6 d2 s6 nd2 hd2 => ?_⟩
    refine ⟨.ref st, rfl, st, CS, dx, _, rfl, s6 st _ hs5, T.cl, T.nC, (by show 2 < 1000; decide), ?_⟩
    have d2s : d2 ≠ st := Ne.symm (ne_of_none hs5 nd2)
    have k7 := kp (H3 := H6) (fs := sf n d1 d2) (fun b o e ne => s6 b o (k5 b o e ne))
    have new1 : ∀ {H3 : Hp} {d : Addr}, (∀ b o, H b = some o → b ≠ st → H3 b = some o) → d ≠ st → H3 d = none → H d = none := fun {H3 d} h ns e => by
      cases eh : H d with
      | none => rfl
      | some o => rw [h d o eh ns] at e; cases e
    refine q _ ⟨dx, n, d1, d2, upd_same, nst k7, by rw [upd_ne d1s]; exact s6 d1 _ hd5, by rw [upd_ne d2s]; exact hd2⟩ ⟨dx, d1, d2, upd_same, new1 k3 d1s nd1, new1 k5 d2s nd2⟩ k7
end
end Nl
end
section
set_option maxHeartbeats 1000000
namespace Nl
open PySem PySem.Spec PyProof.Rows L2 Nt
/-- every pond has its number -/
structure Full (B Qd : Br) : Prop where
  nm : nms Qd = nms B
theorem fill_full (B Qd : Br) : Full B (fill B Qd) := ⟨fill_nms B Qd⟩
theorem Full.get {B Qd : Br} (h : Full B Qd) {z : Str} (m : z ∈ nms B) : getB Qd z = some (val0 Qd z) := by
  rw [← h.nm] at m
  obtain ⟨b, e⟩ := getB_some m
  unfold val0
  rw [e]; rfl
theorem val0_fill {B Qd : Br} (nd : (nms B).Nodup) {z : Str} (m : z ∈ nms B) : val0 (fill B Qd) z = val0 Qd z := by
  have := getB_map (f := val0 Qd) nd m
  unfold fill
  unfold val0 at this ⊢
  rw [this]; rfl
def waterOf (B : Br) (Pp : Pi) (Qp Qc : Br) (z : Str) : Int := val0 Qp z + ((insOf Pp z).map fun p => p.2 * val0 Qc p.1).sum - val0 B z * val0 Qc z
theorem insOf_mem {Pp : Pi} {z : Str} {p : Str × Int} (h : p ∈ insOf Pp z) : ((p.1, z), p.2) ∈ Pp := by
  unfold insOf at h
  obtain ⟨q, hq, e⟩ := List.mem_map.mp h
  obtain ⟨h1, h2⟩ := List.mem_filter.mp hq
  have h3 : q.1.2 = z := of_decide_eq_true h2
  subst e
  subst h3
  exact h1
theorem insOf_len (Pp : Pi) (z : Str) : (insOf Pp z).length ≤ Pp.length := by
  unfold insOf
  rw [List.length_map]
  exact List.length_filter_le _ _
section
variable {P : Program} {w : World} {K : PySem.W.Frag} {mg : Str → Option Value} {base : Heap}
theorem scSNet : FnScope ["self"] ["self"] (defScope mStand_net) := ⟨rfl, rfl, rfl, by decide +kernel, rfl, by decide +kernel, by decide +kernel⟩
def spSNet (CS C : Addr) : Sp := fun vs H Q _ => ∃ (s : Addr) (B : Br) (Pp : Pi) (Qp Qc : Br), vs = [.ref s] ∧ StandAt CS C H s B Pp Qp Qc ∧ ∀ n, NetAt C H n B Pp → (∃ dx d1 d2, H s = some (.ins CS dx (sf n d1 d2))) → Q (.ref n) H
theorem ok_sNet {f CS C : Addr} {fd : FuncData} {k : Nat} (F : Fun K "net" "Stand.net" mStand_net f fd) (T : TxS K mg CS) : FnOk P w K mg base CX0 (k + 1) f fd ["self"] (spSNet CS C) := by
  refine F.ok scSNet (fun vs H Q E h => ?_) (fun cdv A outer s H vs Q E hr h => ?_)
  · obtain ⟨s, B, Pp, Qp, Qc, rfl, _⟩ := h
    rfl
  · obtain ⟨s, B, Pp, Qp, Qc, rfl, ⟨dx, n, d1, d2, hs, N, h1, h2⟩, q⟩ := h
    exact ⟨_, pss_one (ps_ret (pe_fld (pv 0) rfl)), .ref s, rfl, s, CS, dx, _, _, rfl, hs, T.cl, T.nN, sf_n n d1 d2, q n N ⟨dx, d1, d2, hs⟩⟩
theorem scPoured : FnScope ["self", "name"] ["self", "name"] (defScope mStand_poured) := ⟨rfl, rfl, rfl, by decide +kernel, rfl, by decide +kernel, by decide +kernel⟩
def spPoured (CS C : Addr) : Sp := fun vs H Q _ => ∃ (s : Addr) (B : Br) (Pp : Pi) (Qp Qc : Br) (z : Str), vs = [.ref s, .str z] ∧ StandAt CS C H s B Pp Qp Qc ∧ Full B Qp ∧ Nm z ∧ z ∈ nms B ∧ ∀ H', Same H H' → Q (.int (val0 Qp z)) H'
theorem ok_poured {f CS C f1 : Addr} {fd fd1 : FuncData} (F : Fun K "poured" "Stand.poured" mStand_poured f fd) (T : TxS K mg CS) (TN : TxN K mg C) (m1 : Meth K C "check_pond" f1) (G1 : FnOk P w K mg base CX0 4 f1 fd1 ["self", "thing"] (spChk C)) (b1 : Binds K fd1 ["self", "thing"] []) :
    FnOk P w K mg base CX0 5 f fd ["self", "name"] (spPoured CS C) := by
  refine F.ok scPoured (fun vs H Q E h => ?_) (fun cdv A outer s H vs Q E hr h => ?_)
  · obtain ⟨s, B, Pp, Qp, Qc, z, rfl, _⟩ := h
    rfl
  · obtain ⟨s, B, Pp, Qp, Qc, z, rfl, ⟨dx, n, d1, d2, hs, N, h1, h2⟩, fu, nz, mz, q⟩ := h
    refine ⟨_, pss_cons (ps_expr (pe_meth (pe_fld (pv 0) rfl) TN.cl m1 G1 hr b1 .nil pass0 (pa_cons (pv 1) pa_nil))) (pss_one (ps_ret (pe_dget (hu_of hr) (pe_fld (pv 0) rfl) (pv 1) (fun _ _ => rfl)))), ?_⟩
    obtain ⟨dxn, e1, e2, hn, _, _⟩ := N.at_
    refine ⟨.ref s, rfl, s, CS, dx, _, _, rfl, hs, T.cl, T.nN, sf_n n d1 d2, n, dxn, _, rfl, hn, no_attr, .str z, rfl, n, B, Pp, z, rfl, N, nz, mz, fun H1 s1 => ?_⟩
    exact ⟨.ref s, rfl, s, CS, dx, _, _, rfl, s1 s _ hs, T.cl, T.nP, sf_p n d1 d2, .str z, rfl, d1, .int (val0 Qp z), rfl, .inl ⟨_, Sum.inr z, .inl (s1 d1 _ h1), rfl, by rw [valV_bk, fu.get mz]; rfl⟩, q H1 s1⟩
theorem scCount : FnScope ["self", "name"] ["self", "name"] (defScope mStand_count) := ⟨rfl, rfl, rfl, by decide +kernel, rfl, by decide +kernel, by decide +kernel⟩
def spCount (CS C : Addr) : Sp := fun vs H Q _ => ∃ (s : Addr) (B : Br) (Pp : Pi) (Qp Qc : Br) (z : Str), vs = [.ref s, .str z] ∧ StandAt CS C H s B Pp Qp Qc ∧ Full B Qc ∧ Nm z ∧ z ∈ nms B ∧ ∀ H', Same H H' → Q (.int (val0 Qc z)) H'
theorem ok_count {f CS C f1 : Addr} {fd fd1 : FuncData} (F : Fun K "count" "Stand.count" mStand_count f fd) (T : TxS K mg CS) (TN : TxN K mg C) (m1 : Meth K C "check_pond" f1) (G1 : FnOk P w K mg base CX0 4 f1 fd1 ["self", "thing"] (spChk C)) (b1 : Binds K fd1 ["self", "thing"] []) :
    FnOk P w K mg base CX0 5 f fd ["self", "name"] (spCount CS C) := by
  refine F.ok scCount (fun vs H Q E h => ?_) (fun cdv A outer s H vs Q E hr h => ?_)
  · obtain ⟨s, B, Pp, Qp, Qc, z, rfl, _⟩ := h
    rfl
  · obtain ⟨s, B, Pp, Qp, Qc, z, rfl, ⟨dx, n, d1, d2, hs, N, h1, h2⟩, fu, nz, mz, q⟩ := h
    refine ⟨_, pss_cons (ps_expr (pe_meth (pe_fld (pv 0) rfl) TN.cl m1 G1 hr b1 .nil pass0 (pa_cons (pv 1) pa_nil))) (pss_one (ps_ret (pe_dget (hu_of hr) (pe_fld (pv 0) rfl) (pv 1) (fun _ _ => rfl)))), ?_⟩
    obtain ⟨dxn, e1, e2, hn, _, _⟩ := N.at_
    refine ⟨.ref s, rfl, s, CS, dx, _, _, rfl, hs, T.cl, T.nN, sf_n n d1 d2, n, dxn, _, rfl, hn, no_attr, .str z, rfl, n, B, Pp, z, rfl, N, nz, mz, fun H1 s1 => ?_⟩
    exact ⟨.ref s, rfl, s, CS, dx, _, _, rfl, s1 s _ hs, T.cl, T.nC, sf_c n d1 d2, .str z, rfl, d2, .int (val0 Qc z), rfl, .inl ⟨_, Sum.inr z, .inl (s1 d2 _ h2), rfl, by rw [valV_bk, fu.get mz]; rfl⟩, q H1 s1⟩
theorem scWater : FnScope ["self", "name", "came", "one", "width"] ["self", "name"] (defScope mStand_water) := ⟨rfl, rfl, rfl, by decide +kernel, rfl, by decide +kernel, by decide +kernel⟩
def spWater (CS C : Addr) : Sp := fun vs H Q _ => ∃ (s : Addr) (B : Br) (Pp : Pi) (Qp Qc : Br) (z : Str), vs = [.ref s, .str z] ∧ StandAt CS C H s B Pp Qp Qc ∧ Good B Pp ∧ Full B Qp ∧ Full B Qc ∧ z ∈ nms B ∧ ∀ H', Same H H' → Q (.int (waterOf B Pp Qp Qc z)) H'
theorem ok_water {f CS C f1 f2 : Addr} {fd fd1 fd2 : FuncData} (F : Fun K "water" "Stand.water" mStand_water f fd) (T : TxS K mg CS) (TN : TxN K mg C)
    (m1 : Meth K C "ins" f1) (G1 : FnOk P w K mg base CX0 5 f1 fd1 ["self", "name"] (spIns C)) (b1 : Binds K fd1 ["self", "name"] [])
    (m2 : Meth K C "brim" f2) (G2 : FnOk P w K mg base CX0 5 f2 fd2 ["self", "name"] (spBrim C)) (b2 : Binds K fd2 ["self", "name"] []) (ms : mg "sum" = none) :
    FnOk P w K mg base CX0 6 f fd ["self", "name"] (spWater CS C) := by
  refine F.ok scWater (fun vs H Q E h => ?_) (fun cdv A outer s H vs Q E hr h => ?_)
  · obtain ⟨s, B, Pp, Qp, Qc, z, rfl, _⟩ := h
    rfl
  · obtain ⟨s, B, Pp, Qp, Qc, z, rfl, ⟨dx, n, d1, d2, hs, N, h1, h2⟩, good, fp, fc, mz, q⟩ := h
    have wf := good.wf
    have hu := hu_of hr
    refine ⟨_, pss_cons (ps_set (i := 2) scWater.nd rfl (.inl rfl) (pe_callB (cr_sum rfl) (by rfl) ms (by decide +kernel) (pa_cons (pe_lc (own := [("one", 3), ("width", 4)])
        (g := gTup K 2 (gCons (gName 3) (gCons (gName 4) gNil))) (tt := tYes) (te := tOp (rI CMul fun i j => .int (i * j)) (tVar 4) (tDGet (tFld K (tVar 0) "count_by_pond") (tVar 3))) rfl scWater.nd
        (pi_list (pe_meth (pe_fld (pv 0) rfl) TN.cl m1 G1 hr b1 .nil pass0 (pa_cons (pv 1) pa_nil)))
        (blkOk_by (N := ["self", "name", "came", "one", "width"]) (sc := defScope mStand_water) (by decide +kernel))
        (fun _ _ _ _ _ => pg_tup rfl (pgs_cons (pg_name (i := 3) scWater.nd rfl (Or.inl rfl)) (pgs_cons (pg_name (i := 4) scWater.nd rfl (Or.inl rfl)) pgs_nil)))
        (fun _ _ _ _ _ => pts_nil) (fun _ _ _ _ _ => pe_op op_mul (pv 4) (pe_dget hu (pe_fld (pv 0) rfl) (pv 3) (fun _ _ => rfl)))) pa_nil)))
      (pss_one (ps_ret (pe_op op_sub (pe_op op_add (pe_dget hu (pe_fld (pv 0) rfl) (pv 1) (fun _ _ => rfl)) (pv 2)) (pe_op op_mul (pe_meth (pe_fld (pv 0) rfl) TN.cl m2 G2 hr b2 .nil pass0 (pa_cons (pv 1) pa_nil)) (pe_dget hu (pe_fld (pv 0) rfl) (pv 1) (fun _ _ => rfl)))))), ?_⟩
    obtain ⟨dxn, e1, e2, hn, _, _⟩ := N.at_
    obtain ⟨bz, gz⟩ := getB_some mz
    have rz := wf.rb _ (getB_mem gz)
    have nz : Nm z := rz.1
    refine ⟨.ref s, rfl, s, CS, dx, _, _, rfl, hs, T.cl, T.nN, sf_n n d1 d2, n, dxn, _, rfl, hn, no_attr, .str z, rfl, n, B, Pp, z, rfl, N, good, nz, mz, fun H1 p as s1 np hp pA => ?_⟩
    refine ⟨p, rfl, ⟨_, SqL.of hp⟩, fun D nD => ?_⟩
    refine lc_it (n := (as.map V.ref).length) (walk_list (xs := as.map V.ref)) (fun i H2 => H2 D = some (.lst ((((insOf Pp z).take i).map fun p => p.2 * val0 Qc p.1).map V.int)) ∧ Same H1 H2) ⟨upd_same, same_new nD⟩ (fun i H2 _ h => SqL.of (h.2 p _ hp)) ?_ ?_
    · rintro i x H2 H2' hi ⟨hD, sm⟩ ⟨rfl, hx⟩
      rw [List.length_map, pA.1] at hi
      have hy : (insOf Pp z)[i]? = some (insOf Pp z)[i] := List.getElem?_eq_getElem hi
      obtain ⟨t, ht, hT⟩ := pA.2 i _ hy
      obtain ⟨y, hyd⟩ : ∃ y, y = (insOf Pp z)[i] := ⟨_, rfl⟩
      rw [← hyd] at hy hT
      have hx' : V.ref t = x := by
        rw [List.getElem?_map, ht] at hx
        exact Option.some.inj hx
      subst hx'
      have my := insOf_mem (List.mem_of_getElem? hy)
      have ry := wf.rp _ my
      refine ⟨t, [.str y.1, .int y.2], rfl, SqT.of (sm t _ hT), rfl, .str y.1, [.int y.2], rfl, .int y.2, [], rfl, rfl, rfl, ?_⟩
      show (tOp (rI CMul fun i j => .int (i * j)) (tVar 4) (tDGet (tFld K (tVar 0) "count_by_pond") (tVar 3))) _ H2' _
      refine ⟨.int y.2, rfl, .ref s, rfl, s, CS, dx, _, _, rfl, sm s _ (s1 s _ hs), T.cl, T.nC, sf_c n d1 d2, .str y.1, rfl, d2, .int (val0 Qc y.1), rfl, .inl ⟨_, Sum.inr y.1, .inl (sm d2 _ (s1 d2 _ h2)), rfl, by rw [valV_bk, fc.get ry.1]; rfl⟩, y.2, _, rfl, rfl, ?_, _, hD, ?_, ?_, ?_⟩
      · have := ry.2.2.2
        exact .inl ⟨by have := this.1; omega, by have := this.2; omega⟩
      · rw [List.length_map, List.length_map, List.length_take]
        have := insOf_len Pp z
        have := wf.lp
        exact small1000 (by omega)
      · rw [upd_same, List.take_add_one, hy, List.map_append, List.map_append]; rfl
      · exact fun c o ec => by
          have nb : c ≠ D := ne_of_none ec nD
          rw [upd_ne nb]; exact sm c o ec
    · rintro H2 ⟨hD, sm⟩
      rw [List.length_map, pA.1, List.take_length] at hD
      refine ⟨D, _, rfl, SqL.of hD, ?_⟩
      have sA := s1.trans sm
      refine ⟨.ref s, rfl, s, CS, dx, _, _, rfl, sA s _ hs, T.cl, T.nP, sf_p n d1 d2, .str z, rfl, d1, .int (val0 Qp z), rfl, .inl ⟨_, Sum.inr z, .inl (sA d1 _ h1), rfl, by rw [valV_bk, fp.get mz]; rfl⟩, _, rfl, _, _, rfl, rfl, ?_⟩
      refine ⟨.ref s, rfl, s, CS, dx, _, _, rfl, sA s _ hs, T.cl, T.nN, sf_n n d1 d2, n, dxn, _, rfl, sA n _ hn, no_attr, .str z, rfl, n, B, Pp, z, bz, rfl, N.same sA, nz, gz, fun H3 s3 => ?_⟩
      have sB := sA.trans s3
      refine ⟨.ref s, rfl, s, CS, dx, _, _, rfl, sB s _ hs, T.cl, T.nC, sf_c n d1 d2, .str z, rfl, d2, .int (val0 Qc z), rfl, .inl ⟨_, Sum.inr z, .inl (sB d2 _ h2), rfl, by rw [valV_bk, fc.get mz]; rfl⟩, _, _, rfl, rfl, .inl ⟨by have := rz.2; omega, by have := rz.2; omega⟩, _, _, rfl, rfl, ?_⟩
      have := q H3 sB
      unfold waterOf at this
      rw [show val0 B z = bz by unfold val0; rw [gz]; rfl] at this
      exact this
theorem scPours : FnScope ["self", "name"] ["self"] (defScope mStand_pours) := ⟨rfl, rfl, rfl, by decide +kernel, rfl, by decide +kernel, by decide +kernel⟩
def spPours (CS C : Addr) : Sp := fun vs H Q _ => ∃ (s : Addr) (B : Br) (Pp : Pi) (Qp Qc : Br), vs = [.ref s] ∧ StandAt CS C H s B Pp Qp Qc ∧ (nms Qp).Nodup ∧ Qp.length ≤ 12 ∧ ∀ H' p, Same H H' → H p = none → H' p = some (.dK (bk Qp)) → Q (.ref p) H'
theorem ok_pours {f CS C : Addr} {fd : FuncData} {k : Nat} (F : Fun K "pours" "Stand.pours" mStand_pours f fd) (T : TxS K mg CS) : FnOk P w K mg base CX0 (k + 1) f fd ["self"] (spPours CS C) := by
  refine F.ok scPours (fun vs H Q E h => ?_) (fun cdv A outer s H vs Q E hr h => ?_)
  · obtain ⟨s, B, Pp, Qp, Qc, rfl, _⟩ := h
    rfl
  · obtain ⟨s, B, Pp, Qp, Qc, rfl, ⟨dx, n, d1, d2, hs, N, h1, h2⟩, nd, ln, q⟩ := h
    refine ⟨_, pss_one (ps_ret (pe_lock (Rl.pe_dcP (T := .dK []) (own := [("name", 1)]) (g := gName 1) (tt := tYes) (tk := tVar 1) (tv := tDGet (tFld K (tVar 0) "poured_by_pond") (tVar 1)) (.inr rfl) hr rfl scPours.nd (pi_keys (pe_fld (pv 0) rfl))
      (blkOk_by (N := ["self", "name"]) (sc := defScope mStand_pours) (by decide +kernel)) (fun _ _ _ _ _ => pg_name (i := 1) scPours.nd rfl (Or.inl rfl)) (fun _ _ _ _ _ => pts_nil)
      (fun _ _ _ _ _ => pv 1) (fun _ _ _ _ _ => pe_dget (hu_of hr) (pe_fld (pv 0) rfl) (pv 1) (fun _ _ => rfl))))), ?_⟩
    have nd1 : s ≠ d1 := fun e => by subst e; rw [hs] at h1; cases h1
    refine ⟨d1, _, h1, trivial, fun od => ?_⟩
    refine ⟨.ref s, rfl, s, CS, dx, _, _, rfl, (by rw [upd_ne nd1]; exact hs), T.cl, T.nP, sf_p n d1 d2, d1, od, rfl, .inl ⟨_, upd_same, fun D nD => ?_⟩⟩
    have hDd : D ≠ d1 := fun e => by subst e; rw [upd_same] at nD; cases nD
    have nDH : H D = none := by rw [upd_ne hDd] at nD; exact nD
    refine Rl.gc_it (n := (bk Qp).length) (b0 := fun _ => .dK []) walk_keys (fun i H2 => H2 D = some (.dK (bk (Qp.take i))) ∧ Same (upd H d1 (.frz od (.dK (bk Qp)))) H2) ⟨upd_same, same_new nD⟩ (fun i H2 _ h => h.2 d1 _ upd_same) ?_ ?_
    · rintro i x H2 H2' hi ⟨hD, sm⟩ ⟨rfl, kk, v, hkv, rfl⟩
      obtain ⟨p, hp, rfl, rfl⟩ := bk_at hkv
      have hm := List.mem_of_getElem? hp
      refine ⟨rfl, .str p.1, rfl, .ref s, rfl, s, CS, dx, _, _, rfl, sm s _ (by rw [upd_ne nd1]; exact hs), T.cl, T.nP, sf_p n d1 d2, .str p.1, rfl, d1, .int p.2, rfl, .inl ⟨_, Sum.inr p.1, .inr ⟨od, sm d1 _ upd_same⟩, rfl, ?_⟩, _, DPut.k (k := Sum.inr p.1) hD ?_, ?_, ?_⟩
      · rw [valV_bk, getB_of_mem nd hm]; rfl
      · rw [bk_len, List.length_take]; exact small1000 (by omega)
      · have fr : p.1 ∉ nms (Qp.take i) := by
          have h3 : (nms Qp)[i]? = some p.1 := by unfold nms; rw [List.getElem?_map, hp]; rfl
          have h4 := take_nd nd h3
          unfold nms at h4 ⊢
          rw [← List.map_take] at h4; exact h4
        rw [upd_same, putK_bk fr, List.take_add_one, hp]; rfl
      · exact fun c o ec => by
          have nb : c ≠ D := ne_of_none ec nD
          rw [upd_ne nb]; exact sm c o ec
    · rintro H2 ⟨hD, sm⟩
      obtain ⟨l1, l2⟩ := same_lock h1 sm
      rw [bk_len, List.take_length] at hD
      exact ⟨l1, q _ D l2 nDH (by rw [upd_ne hDd]; exact hD)⟩
theorem scCounts : FnScope ["self", "name"] ["self"] (defScope mStand_counts) := ⟨rfl, rfl, rfl, by decide +kernel, rfl, by decide +kernel, by decide +kernel⟩
def spCounts (CS C : Addr) : Sp := fun vs H Q _ => ∃ (s : Addr) (B : Br) (Pp : Pi) (Qp Qc : Br), vs = [.ref s] ∧ StandAt CS C H s B Pp Qp Qc ∧ (nms Qc).Nodup ∧ Qc.length ≤ 12 ∧ ∀ H' p, Same H H' → H p = none → H' p = some (.dK (bk Qc)) → Q (.ref p) H'
theorem ok_counts {f CS C : Addr} {fd : FuncData} {k : Nat} (F : Fun K "counts" "Stand.counts" mStand_counts f fd) (T : TxS K mg CS) : FnOk P w K mg base CX0 (k + 1) f fd ["self"] (spCounts CS C) := by
  refine F.ok scCounts (fun vs H Q E h => ?_) (fun cdv A outer s H vs Q E hr h => ?_)
  · obtain ⟨s, B, Pp, Qp, Qc, rfl, _⟩ := h
    rfl
  · obtain ⟨s, B, Pp, Qp, Qc, rfl, ⟨dx, n, d1, d2, hs, N, h1, h2⟩, nd, ln, q⟩ := h
    refine ⟨_, pss_one (ps_ret (pe_lock (Rl.pe_dcP (T := .dK []) (own := [("name", 1)]) (g := gName 1) (tt := tYes) (tk := tVar 1) (tv := tDGet (tFld K (tVar 0) "count_by_pond") (tVar 1)) (.inr rfl) hr rfl scCounts.nd (pi_keys (pe_fld (pv 0) rfl))
      (blkOk_by (N := ["self", "name"]) (sc := defScope mStand_counts) (by decide +kernel)) (fun _ _ _ _ _ => pg_name (i := 1) scCounts.nd rfl (Or.inl rfl)) (fun _ _ _ _ _ => pts_nil)
      (fun _ _ _ _ _ => pv 1) (fun _ _ _ _ _ => pe_dget (hu_of hr) (pe_fld (pv 0) rfl) (pv 1) (fun _ _ => rfl))))), ?_⟩
    have nd1 : s ≠ d2 := fun e => by subst e; rw [hs] at h2; cases h2
    refine ⟨d2, _, h2, trivial, fun od => ?_⟩
    refine ⟨.ref s, rfl, s, CS, dx, _, _, rfl, (by rw [upd_ne nd1]; exact hs), T.cl, T.nC, sf_c n d1 d2, d2, od, rfl, .inl ⟨_, upd_same, fun D nD => ?_⟩⟩
    have hDd : D ≠ d2 := fun e => by subst e; rw [upd_same] at nD; cases nD
    have nDH : H D = none := by rw [upd_ne hDd] at nD; exact nD
    refine Rl.gc_it (n := (bk Qc).length) (b0 := fun _ => .dK []) walk_keys (fun i H2 => H2 D = some (.dK (bk (Qc.take i))) ∧ Same (upd H d2 (.frz od (.dK (bk Qc)))) H2) ⟨upd_same, same_new nD⟩ (fun i H2 _ h => h.2 d2 _ upd_same) ?_ ?_
    · rintro i x H2 H2' hi ⟨hD, sm⟩ ⟨rfl, kk, v, hkv, rfl⟩
      obtain ⟨p, hp, rfl, rfl⟩ := bk_at hkv
      have hm := List.mem_of_getElem? hp
      refine ⟨rfl, .str p.1, rfl, .ref s, rfl, s, CS, dx, _, _, rfl, sm s _ (by rw [upd_ne nd1]; exact hs), T.cl, T.nC, sf_c n d1 d2, .str p.1, rfl, d2, .int p.2, rfl, .inl ⟨_, Sum.inr p.1, .inr ⟨od, sm d2 _ upd_same⟩, rfl, ?_⟩, _, DPut.k (k := Sum.inr p.1) hD ?_, ?_, ?_⟩
      · rw [valV_bk, getB_of_mem nd hm]; rfl
      · rw [bk_len, List.length_take]; exact small1000 (by omega)
      · have fr : p.1 ∉ nms (Qc.take i) := by
          have h3 : (nms Qc)[i]? = some p.1 := by unfold nms; rw [List.getElem?_map, hp]; rfl
          have h4 := take_nd nd h3
          unfold nms at h4 ⊢
          rw [← List.map_take] at h4; exact h4
        rw [upd_same, putK_bk fr, List.take_add_one, hp]; rfl
      · exact fun c o ec => by
          have nb : c ≠ D := ne_of_none ec nD
          rw [upd_ne nb]; exact sm c o ec
    · rintro H2 ⟨hD, sm⟩
      obtain ⟨l1, l2⟩ := same_lock h2 sm
      rw [bk_len, List.take_length] at hD
      exact ⟨l1, q _ D l2 nDH (by rw [upd_ne hDd]; exact hD)⟩
end
end Nl
end
section
set_option maxHeartbeats 1000000
namespace Nl
open PySem PySem.Spec PyProof.Rows L2 Nt
theorem scDraw : FnScope ["_law_pot_here", "_law_many", "_law_digit"] ["_law_pot_here", "_law_many"] (defScope sDraw) :=
  ⟨rfl, rfl, rfl, by decide +kernel, rfl, by decide +kernel, by decide +kernel⟩
theorem scPot : FnScope ["_law_script", "_law_k", "_law_cell"] ["_law_script", "_law_k"] (defScope sPot) :=
  ⟨rfl, rfl, rfl, by decide +kernel, rfl, by decide +kernel, by decide +kernel⟩
/-! ### the pot -/
def PotOk (a b : Int) : Prop := 0 ≤ a ∧ 0 ≤ b ∧ b < 4294967296
def PotAt (H : Hp) (p : Addr) : Prop := ∃ a b, H p = some (.lst [.int a, .int b]) ∧ PotOk a b
theorem Kp.refl (p : Addr) (H : Hp) : Kp p H H := fun _ _ _ e => e
theorem no_pylong {i j : Int} (h0 : 0 < j) (h1 : j < 2 ^ 200) : CDivP i j := by
  refine ⟨h0, ?_⟩
  have hn : j.natAbs < 2 ^ 200 := by omega
  have hl : j.natAbs.log2 < 200 := by
    rw [Nat.log2_lt (by omega)]; exact hn
  have hd : j.natAbs.log2 / 30 ≤ 6 := by omega
  unfold Builtin.divisionGoesByPylong
  have h3 : ∀ k : Nat, 300 ≤ k → ¬ (k < j.natAbs.log2 / 30 + 1) := fun k hk => by omega
  simp only [Bool.and_eq_true, decide_eq_true_eq, Bool.and_eq_false_iff, decide_eq_false_iff_not]
  split <;> first | (left; omega) | omega | simp
theorem PotAt.new {H : Hp} {p q : Addr} {o : HO} (h : PotAt H p) (n : H q = none) : PotAt (upd H q o) p := by
  obtain ⟨a, b, hp, hab⟩ := h
  exact ⟨a, b, by rw [upd_ne (ne_of_none hp n)]; exact hp, hab⟩
theorem PotAt.ne {H : Hp} {p q : Addr} (h : PotAt H p) (n : H q = none) : q ≠ p := by
  obtain ⟨a, b, hp, hab⟩ := h
  exact Ne.symm (ne_of_none hp n)
theorem PotAt.put {H : Hp} {p q : Addr} {o : HO} (h : PotAt H p) (n : q ≠ p) : PotAt (upd H q o) p := by
  obtain ⟨a, b, hp, hab⟩ := h
  exact ⟨a, b, by rw [upd_ne (Ne.symm n)]; exact hp, hab⟩
section
variable {P : Program} {w : World} {K : PySem.W.Frag} {mg : Str → Option Value} {base : Heap}
/-! ### draw -/
def spDraw : Sp := fun vs H Q _ => ∃ (p : Addr) (m : Int), vs = [.ref p, .int m] ∧ PotAt H p ∧ 0 < m ∧ m < 2 ^ 200 ∧
  ∀ d H', Kp p H H' → PotAt H' p → 0 ≤ d → d < m → Q (.int d) H'
theorem ok_draw {f : Addr} {fd : FuncData} {k : Nat} (F : Fun K "_law_draw" "_law_draw" sDraw f fd) (md : mg "divmod" = none) :
    FnOk P w K mg base CX0 (k + 1) f fd ["_law_pot_here", "_law_many"] spDraw := by
  refine F.ok scDraw (fun vs H Q E h => ?_) (fun cdv A outer s H vs Q E hr h => ?_)
  · obtain ⟨p, m, rfl, _⟩ := h
    rfl
  · obtain ⟨p, m, rfl, ⟨a, b, hp, ha, hb, hb2⟩, m0, m1, q⟩ := h
    refine ⟨_, pss_cons (ps_if (pt_cmpR op_gt (pe_ix ix_list (pv 0) pe_int (fun _ _ => rfl)) pe_int (nomark _))
        (pss_cons (ps_asg (pe_callB call_divmodW (by rfl) md (by decide +kernel) (pa_cons (pe_ix ix_list (pv 0) pe_int (fun _ _ => rfl)) (pa_cons (pv 1) pa_nil)))
            (pg_tup rfl (pgs_cons (pg_sub (pv 0) pe_int set_list) (pgs_cons (pg_name (i := 2) scDraw.nd rfl (.inl rfl)) pgs_nil))))
          (pss_one (ps_ret (pv 2)))) pss_nil)
      (pss_cons (ps_asg (pe_op op_mod (pe_op op_add (pe_op op_mul (pe_ix ix_list (pv 0) pe_int (fun _ _ => rfl)) pe_int) pe_int) pe_int) (pg_sub (pv 0) pe_int set_list))
      (pss_one (ps_ret (pe_op op_mod (pe_op op_fdiv (pe_op op_mod (pe_op op_mul (pe_ix ix_list (pv 0) pe_int (fun _ _ => rfl)) (pe_ix ix_list (pv 0) pe_int (fun _ _ => rfl))) pe_int) pe_int) (pv 1))))), ?_⟩
    have i0 : atI [V.int a, V.int b] 0 = some (.int a) := atI_nat (j := 0) rfl
    have i1 : atI [V.int a, V.int b] 1 = some (.int b) := atI_nat (j := 1) rfl
    refine ⟨.ref p, rfl, p, _, 0, _, rfl, rfl, SqL.of hp, i0, _, _, rfl, rfl, _, rfl, ite2 (fun e => ?_) (fun e => ?_)⟩
    · -- pot[0], digit = divmod(pot[0], many)
      refine ⟨.ref p, rfl, p, _, 0, _, rfl, rfl, SqL.of hp, i0, .int m, rfl, a, m, rfl, no_pylong m0 m1, fun T nT => ?_⟩
      have nTp : p ≠ T := ne_of_none hp nT
      have hp1 : (upd H T (.tup [.int (a / m), .int (a % m)])) p = some (.lst [.int a, .int b]) := by rw [upd_ne nTp]; exact hp
      refine ⟨T, [.int (a / m), .int (a % m)], rfl, .inl (.inl upd_same), rfl, .int (a / m), [.int (a % m)], rfl, ?_⟩
      refine ⟨.ref p, rfl, p, _, 0, 0, rfl, rfl, hp1, rfl, ?_⟩
      refine ⟨.int (a % m), [], rfl, rfl, .int (a % m), rfl, ?_⟩
      refine q (a % m) _ ((Kp.new nT).trans Kp.here) ⟨a / m, b, upd_same, Int.ediv_nonneg ha (by omega), hb, hb2⟩ (Int.emod_nonneg _ (by omega)) (Int.emod_lt_of_pos _ m0)
    · refine ⟨.ref p, rfl, p, _, 1, _, rfl, rfl, SqL.of hp, i1, b, 48271, rfl, rfl, .inr ⟨by decide, by decide⟩, _, _, rfl, rfl, _, _, rfl, rfl, (by show (0 : Int) < 2147483647; decide), ?_⟩
      refine ⟨.ref p, rfl, p, _, 1, 1, rfl, rfl, hp, rfl, ?_⟩
      obtain ⟨c, hc⟩ : ∃ c, c = (b * 48271 + 20011) % 2147483647 := ⟨_, rfl⟩
      have c0 : 0 ≤ c := by rw [hc]; exact Int.emod_nonneg _ (by decide)
      have c1 : c < 2147483647 := by rw [hc]; exact Int.emod_lt_of_pos _ (by decide)
      have j1 : atI [V.int a, V.int c] 1 = some (.int c) := atI_nat (j := 1) rfl
      have hp2 : (upd H p (.lst ([V.int a, V.int b].set 1 (.int ((b * 48271 + 20011) % 2147483647))))) p = some (.lst [.int a, .int c]) := by
        rw [upd_same, ← hc]; rfl
      refine ⟨.ref p, rfl, p, _, 1, _, rfl, rfl, SqL.of hp2, j1, .ref p, rfl, p, _, 1, _, rfl, rfl, SqL.of hp2, j1, c, c, rfl, rfl, .inl ⟨by omega, by omega⟩, ?_⟩
      refine ⟨_, _, rfl, rfl, (by show (0 : Int) < 2147483629; decide), _, _, rfl, rfl, ⟨by decide, by decide⟩, .int m, rfl, _, m, rfl, rfl, m0, ?_⟩
      exact q _ _ Kp.here ⟨a, c, hp2, ha, c0, by omega⟩ (Int.emod_nonneg _ (by omega)) (Int.emod_lt_of_pos _ m0)
/-! ### pot -/
def spPot (K : PySem.W.Frag) : Sp := fun vs H Q _ => ∃ (a : Addr) (ns : List Int) (k : Int), vs = [.ref a, .int k] ∧ SqL K H a (ns.map V.int) ∧ 0 ≤ k ∧ k < 100 ∧
  ∀ H' p, Same H H' → H p = none → PotAt H' p → Q (.ref p) H'
theorem ok_pot {f : Addr} {fd : FuncData} {k : Nat} (F : Fun K "_law_pot" "_law_pot" sPot f fd) (ml : mg "len" = none) (mm : mg "max" = none) (ma : mg "abs" = none) :
    FnOk P w K mg base CX0 (k + 1) f fd ["_law_script", "_law_k"] (spPot K) := by
  refine F.ok scPot (fun vs H Q E h => ?_) (fun cdv A outer s H vs Q E hr h => ?_)
  · obtain ⟨a, ns, k, rfl, _⟩ := h
    rfl
  · obtain ⟨a, ns, k, rfl, hS, k0, k1, q⟩ := h
    refine ⟨_, pss_cons (ps_set (i := 2) scPot.nd rfl (.inl rfl) (pe_ifExp (pt_cmpR op_lt (pv 1) (pe_callB call_len_seq (by rfl) ml PySem.boot_len (pa_cons (pv 0) pa_nil)) (nomark _)) (pe_ix ix_list (pv 0) (pv 1) (fun _ _ => rfl)) pe_int))
      (pss_one (ps_ret (pe_lst (pa_cons (pe_callB (call_max2 rfl) (by rfl) mm (by decide +kernel) (pa_cons pe_int (pa_cons (pe_op op_sub (pe_callB call_abs (by rfl) ma (by decide +kernel) (pa_cons (pv 2) pa_nil)) (pe_op op_pow pe_int pe_int)) pa_nil)))
        (pa_cons (pe_op op_add (pe_op op_add (pe_op op_mod (pe_callB call_abs (by rfl) ma (by decide +kernel) (pa_cons (pv 2) pa_nil)) pe_int) (pe_op op_mul pe_int (pv 1))) pe_int) pa_nil))))), ?_⟩
    have done : ∀ n : Int, ∀ σ, σ = [some (V.ref a), some (.int k), some (.int n)] → True := fun _ _ _ => trivial
    refine ⟨.int k, rfl, .ref a, rfl, a, _, rfl, .inl hS, k, _, rfl, rfl, _, rfl, ite2 (fun e => ?_) (fun e => ?_)⟩
    · have e' : k < ((ns.map V.int).length : Int) := of_decide_eq_true e
      rw [List.length_map] at e'
      obtain ⟨j, rfl⟩ : ∃ j : Nat, k = (j : Int) := ⟨k.toNat, by omega⟩
      have hj : j < ns.length := by omega
      have g : (ns.map V.int)[j]? = some (.int ns[j]) := by
        rw [List.getElem?_map, List.getElem?_eq_getElem hj]; rfl
      refine ⟨.ref a, rfl, .int j, rfl, a, _, j, _, rfl, rfl, hS, atI_nat g, ?_⟩
      refine ⟨.int ns[j], rfl, _, rfl, 10, 18, rfl, rfl, ⟨by decide, by decide, by decide⟩, _, _, rfl, rfl, _, _, rfl, ?_⟩
      refine ⟨.int ns[j], rfl, _, rfl, _, _, rfl, rfl, (by show (0 : Int) < 2147483587; decide), .int j, rfl, 131, _, rfl, rfl, .inl ⟨by decide, by decide⟩, _, _, rfl, rfl, _, _, rfl, rfl, ?_⟩
      refine ⟨by show 2 ≤ sizeLine; decide, fun p np => ?_⟩
      refine q _ p (same_new np) np ⟨_, _, upd_same, ?_, ?_, ?_⟩
      · show (0 : Int) ≤ if _ > (0 : Int) then _ else 0
        split <;> omega
      · have := Int.emod_nonneg (if ns[j] < 0 then -ns[j] else ns[j]) (show (2147483587 : Int) ≠ 0 by decide)
        omega
      · have := Int.emod_lt_of_pos (if ns[j] < 0 then -ns[j] else ns[j]) (show (0 : Int) < 2147483587 by decide)
        omega
    · refine ⟨.int 0, rfl, _, rfl, 10, 18, rfl, rfl, ⟨by decide, by decide, by decide⟩, _, _, rfl, rfl, _, _, rfl, ?_⟩
      refine ⟨.int 0, rfl, _, rfl, _, _, rfl, rfl, (by show (0 : Int) < 2147483587; decide), .int k, rfl, 131, _, rfl, rfl, .inl ⟨by decide, by decide⟩, _, _, rfl, rfl, _, _, rfl, rfl, ?_⟩
      refine ⟨by show 2 ≤ sizeLine; decide, fun p np => ?_⟩
      refine q _ p (same_new np) np ⟨_, _, upd_same, ?_, ?_, ?_⟩
      · decide
      · show (0 : Int) ≤ 0 + 131 * k + 7
        omega
      · show (0 : Int) + 131 * k + 7 < _
        omega
end
end Nl
end
section
set_option maxHeartbeats 2000000
namespace Nl
open PySem PySem.Spec PyProof.Rows L2 Nt
theorem Sm.strOk {n : Nat} {z : Str} (h : Sm n z) : PyData.strOk z = true := by
  unfold PyData.strOk
  rw [Array.all_eq_true']
  intro c hc
  have := h.2 c (Array.mem_toList_iff.mpr hc)
  exact decide_eq_true (by omega)
theorem dp_strs {K : PySem.W.Frag} {H : Hp} : ∀ l : List Str, DpAll K H (l.map V.str) (l.map PyData.str)
  | [] => .nil
  | z :: l => .cons (.str z) (dp_strs l)
theorem lay_strs : ∀ {l : List Str}, (∀ z ∈ l, Sm 25 z) → PyData.canLayAll0 (l.map PyData.str) = true ∧ PyData.depthAll (l.map PyData.str) = 0
  | [], _ => ⟨rfl, rfl⟩
  | z :: l, h => by
    obtain ⟨h1, h2⟩ := lay_strs (l := l) fun y hy => h y (List.mem_cons_of_mem _ hy)
    constructor
    · show (PyData.canLay0 (.str z) && PyData.canLayAll0 (l.map PyData.str)) = true
      rw [h1, show PyData.canLay0 (.str z) = PyData.strOk z from by simp [PyData.canLay0], (h z List.mem_cons_self).strOk]; rfl
    · show max (PyData.depth (.str z)) (PyData.depthAll (l.map PyData.str)) = 0
      rw [h2]; simp [PyData.depth]
theorem shaped_strs {l : List Str} (h : ∀ z ∈ l, Sm 25 z) : SeqAt.shaped (.list (l.map PyData.str)) = true := by
  obtain ⟨h1, h2⟩ := lay_strs h
  unfold SeqAt.shaped
  rw [show PyData.canLay0 (.list (l.map PyData.str)) = PyData.canLayAll0 (l.map PyData.str) by simp [PyData.canLay0], h1, show PyData.depth (.list (l.map PyData.str)) = PyData.depthAll (l.map PyData.str) + 1 by simp [PyData.depth], h2]
  decide
theorem ne_nil {K : PySem.W.Frag} {H : Hp} {a e : Addr} {l : List Str} {Q : V → Hp → Prop} (ha : H a = some (.lst (l.map V.str))) (he : H e = some (.lst [])) (h : ∀ z ∈ l, Sm 25 z) (q : Q (.bl (!l.isEmpty)) H) : rNeD K (.ref a) (.ref e) H Q := by
  refine ⟨_, _, .lst (SqL.of ha) (dp_strs l), .lst (SqL.of he) .nil, shaped_strs h, by simp [SeqAt.shaped, PyData.canLay0, PyData.canLayAll0, PyData.depth, PyData.depthAll], ?_⟩
  have : PyData.eqv (.list (l.map PyData.str)) (.list []) = l.isEmpty := by
    cases l <;> simp [PyData.eqv, PyData.eqvAll]
  rw [this]
  exact q
theorem six {d : Int} {n : Nat} (h0 : 0 ≤ d) (h1 : d < n) : seqIndex? d n = some d.toNat := by
  unfold seqIndex?
  have hn : ¬ d < 0 := by omega
  simp [hn, h0, h1]
theorem erase_perm {α : Type} {l : List α} {k : Nat} {y : α} (h : l[k]? = some y) : (y :: l.eraseIdx k).Perm l := by
  induction l generalizing k with
  | nil => simp at h
  | cons x l ih =>
    cases k with
    | zero =>
      have : x = y := by simpa using h
      subst this
      exact .refl _
    | succ k =>
      have h' : l[k]? = some y := by simpa using h
      exact (List.Perm.swap x y _).trans ((ih h').cons x)
theorem erase_map {α β : Type} (f : α → β) : ∀ (l : List α) (k : Nat), (l.map f).eraseIdx k = (l.eraseIdx k).map f
  | [], _ => rfl
  | _ :: _, 0 => rfl
  | x :: l, k + 1 => by
    show f x :: (l.map f).eraseIdx k = f x :: (l.eraseIdx k).map f
    rw [erase_map f l k]
theorem sixIn {l : List V} {d : Int} (h0 : 0 ≤ d) (h1 : d < l.length) : ∃ y, l[d.toNat]? = some y ∧ y ∈ l := by
  have hj : d.toNat < l.length := by omega
  exact ⟨l[d.toNat], List.getElem?_eq_getElem hj, List.getElem_mem hj⟩
end Nl
end
section
set_option maxHeartbeats 2000000
namespace Nl
open PySem PySem.Spec PyProof.Rows L2 Nt
def lcScope (e : Expr) : Scope := match e with
  | .ListComp _ _ sc _ => sc
  | _ => { kind := .function, names := [], isGenerator := false, isCoroutine := false }
def asgV (s : Stmt) : Expr := match s with
  | .Assign _ v _ => v
  | .For _ _ (.Assign _ v _ :: _) _ _ => v
  | .Return (some v) _ => v
  | _ => .Name "x" ⟨0, 0, 0, 0⟩
def bodyAt (s : Stmt) (i : Nat) : Stmt := (defBody s).getD i (.Pass ⟨0, 0, 0, 0⟩)
/-- [E for pair in pipes if pair[c] == name] -/
def tPick (K : PySem.W.Frag) (jp jv jn : Nat) (c : Int) (te : TE) : TE := tLockE (tLc (iKeys (tVar jp)) (gName jv) (tTest (tOp rEq (tOp (rIxT K) (tVar jv) (tC (.int c))) (tVar jn))) te [jv])
theorem pick_ok {K : PySem.W.Frag} {Pp : Pi} {a : Addr} {H : Hp} {σ : L2.St} {te : TE} {jp jv jn : Nat} {c : Int} {z : Str} {Q : V → Hp → Prop} (sel : (Str × Str) × Int → Str) (val : (Str × Str) × Int → V)
    (hsel : ∀ p : (Str × Str) × Int, atI [V.str p.1.1, V.str p.1.2] c = some (.str (sel p))) (lp : Pp.length ≤ 200) (ha : H a = some (.dT (pt Pp))) (hjp : σ[jp]? = some (some (.ref a)))
    (hv : ∀ q : Addr, ((wipe σ [jv]).set jv (some (.ref q)))[jv]? = some (some (V.ref q))) (hn : ∀ q : Addr, ((wipe σ [jv]).set jv (some (.ref q)))[jn]? = some (some (V.str z)))
    (hw : ∀ q : Addr, wipe ((wipe σ [jv]).set jv (some (.ref q))) [jv] = wipe σ [jv])
    (ht : ∀ (p : (Str × Str) × Int) (q : Addr) (od : Obj) (H2 : Hp) (R : V → Hp → Prop), p ∈ Pp → Same (upd H a (.frz od (.dT (pt Pp)))) H2 → H2 q = some (.tup [.str p.1.1, .str p.1.2]) → R (val p) H2 → te ((wipe σ [jv]).set jv (some (.ref q))) H2 R)
    (q : ∀ D H', Same H H' → H D = none → H' D = some (.lst ((Pp.filter fun p => decide (sel p = z)).map val)) → Q (.ref D) H') : tPick K jp jv jn c te σ H Q := by
  refine ⟨a, _, ha, trivial, fun od => ?_⟩
  refine ⟨.ref a, hjp, a, od, rfl, .inr ⟨_, upd_same, fun D nD => ?_⟩⟩
  have hD0 : D ≠ a := fun e => by subst e; rw [upd_same] at nD; cases nD
  have nDH : H D = none := by rw [upd_ne hD0] at nD; exact nD
  refine lc_it (n := (pt Pp).length) walk_keysT (fun i H1 => H1 D = some (.lst (((Pp.take i).filter fun p => decide (sel p = z)).map val)) ∧ Same (upd H a (.frz od (.dT (pt Pp)))) H1) ⟨upd_same, same_new nD⟩ (fun i H1 _ h => h.2 a _ upd_same) ?_ ?_
  · rintro i x H1 H2 hi ⟨hD, sm⟩ ⟨rfl, kk, v, qq, hkv, rfl, hq⟩
    obtain ⟨p, hp, rfl, rfl⟩ := pt_at hkv
    have hm : p ∈ Pp := List.mem_of_getElem? hp
    refine ⟨hw qq, .ref qq, hv qq, qq, _, c, .str (sel p), rfl, rfl, SqT.of hq, hsel p, .str z, hn qq, rfl, _, rfl, ?_⟩
    rw [decStr]
    refine ite2 (fun e => ?_) (fun e => ?_)
    · refine ht p qq od H2 _ hm sm hq ⟨_, hD, ?_, ?_, ?_⟩
      · rw [List.length_map]
        refine small1000 (Nat.le_trans (List.length_filter_le _ _) ?_)
        rw [List.length_take]; omega
      · rw [upd_same, List.take_add_one, hp, List.filter_append, List.map_append]
        show _ = some (HO.lst (_ ++ List.map _ (List.filter _ [p])))
        rw [List.filter_cons, if_pos e]
        rfl
      · exact fun b o eb => by
          have nb : b ≠ D := ne_of_none eb nD
          rw [upd_ne nb]; exact sm b o eb
    · refine ⟨?_, sm⟩
      rw [hD, List.take_add_one, hp, List.filter_append, List.map_append]
      show _ = some (HO.lst (_ ++ List.map _ (List.filter _ [p])))
      rw [List.filter_cons, if_neg e]
      simp
  · rintro H1 ⟨hD, sm⟩
    obtain ⟨l1, l2⟩ := same_lock ha sm
    refine ⟨l1, q D _ l2 nDH ?_⟩
    rw [upd_ne hD0, hD, List.take_of_length_le (by unfold pt; rw [List.length_map]; exact Nat.le_refl _)]
/-- the width of a pair -/
theorem width_at {Pp : Pi} {a q : Addr} {od : Obj} {H H2 : Hp} {σ : L2.St} {jp jv : Nat} {p : (Str × Str) × Int} {R : V → Hp → Prop} (nd : (Pp.map Prod.fst).Nodup) (hm : p ∈ Pp) (sm : Same (upd H a (.frz od (.dT (pt Pp)))) H2) (hq : H2 q = some (.tup [.str p.1.1, .str p.1.2]))
    (hjp : σ[jp]? = some (some (.ref a))) (hv : σ[jv]? = some (some (.ref q))) (r : R (.int p.2) H2) : tDGet (tVar jp) (tVar jv) σ H2 R :=
  ⟨.ref a, hjp, .ref q, hv, a, .int p.2, rfl, .inr ⟨_, Rl.pk p.1, q, .inr ⟨od, sm a _ upd_same⟩, rfl, hq, by rw [valV_pt, getP_of_mem nd (show (p.1, p.2) ∈ Pp from hm)]; rfl⟩, r⟩
theorem at0 (p : (Str × Str) × Int) : atI [V.str p.1.1, V.str p.1.2] 0 = some (.str p.1.1) := atI_nat (j := 0) rfl
theorem at1 (p : (Str × Str) × Int) : atI [V.str p.1.1, V.str p.1.2] 1 = some (.str p.1.2) := atI_nat (j := 1) rfl
theorem get_bk {B : Br} {a : Addr} {H : Hp} {σ : L2.St} {jb jn : Nat} {z : Str} {c : Int} {R : V → Hp → Prop} (hb : Rd H a (.dK (bk B))) (g : getB B z = some c) (hjb : σ[jb]? = some (some (.ref a))) (hn : σ[jn]? = some (some (.str z))) (r : R (.int c) H) : tDGet (tVar jb) (tVar jn) σ H R :=
  ⟨.ref a, hjb, .str z, hn, a, .int c, rfl, .inl ⟨_, Sum.inr z, hb, rfl, by rw [valV_bk, g]; rfl⟩, r⟩
end Nl
end
section
set_option maxHeartbeats 2000000
namespace Nl
open PySem PySem.Spec PyProof.Rows L2 Nt
theorem leavesN_succ (P : Pi) : ∀ (n : Nat) (L : List Str), leavesN P (n + 1) L = leaves P (leavesN P n L)
  | 0, _ => rfl
  | n + 1, L => by
    show leavesN P (n + 1) (leaves P L) = leaves P (leavesN P n (leaves P L))
    exact leavesN_succ P n _
theorem leavesN_nodup (P : Pi) : ∀ (n : Nat) (L : List Str), L.Nodup → (leavesN P n L).Nodup
  | 0, _, h => h
  | n + 1, L, h => leavesN_nodup P n _ (h.sublist (List.filter_sublist))
theorem leavesN_len (P : Pi) (n : Nat) (L : List Str) (h : L.Nodup) : (leavesN P n L).length ≤ L.length := len_le_of_sub (leavesN_nodup P n L h) (leavesN_sub P n L)
def leafB (P : Pi) (L : List Str) (x : Str) : Bool := (P.filter fun p => decide (p.1.1 = x)).all fun p => decide (p.1.2 ∈ L)
/-- [x for x in xs if ..], xs a list of texts -/
theorem keep_lc {K : PySem.W.Frag} {l : List Str} {b : Str → Bool} {e D : Addr} {H1 : Hp} {σ : L2.St} {tt : TT} {j : Nat} {Qd : Hp → Prop} (ln : l.length ≤ 200) (he : H1 e = some (.lst (l.map V.str))) (nD : H1 D = none)
    (hj : ∀ z : Str, ((wipe σ [j]).set j (some (.str z)))[j]? = some (some (V.str z))) (hw : ∀ z : Str, wipe ((wipe σ [j]).set j (some (.str z))) [j] = wipe σ [j])
    (ht : ∀ (z : Str) (H2 : Hp) (R : Bool → Hp → Prop), z ∈ l → Same H1 H2 → (∀ H3, Same H2 H3 → R (b z) H3) → tt ((wipe σ [j]).set j (some (.str z))) H2 R)
    (hd : ∀ H2, H2 D = some (.lst ((l.filter b).map V.str)) → Same H1 H2 → Qd H2) :
    ∃ W : Nat → Nat → Hp → Prop, (∃ m, W 0 m (upd H1 D (.lst []))) ∧ ∀ i m H, W i m H →
      ((Itl K e).stop i H ∧ Qd H) ∨ ((Itl K e).go i H ∧ ∃ Nx : Hp → Prop, (∀ H', Nx H' → ∃ m', m' < m ∧ W (i + 1) m' H') ∧
        ∀ x H', (Itl K e).yld i H x H' → gName j x (wipe σ [j]) H' fun σ2 H2 => wipe σ2 [j] = wipe σ [j] ∧ tt σ2 H2 fun b H3 => if b = true then tVar j σ2 H3 fun y H4 => ∃ acc, H4 D = some (.lst acc) ∧ acc.length < sizeLine ∧ Nx (upd H4 D (.lst (acc ++ [y]))) else Nx H3) := by
  refine lc_it (walk_list (K := K) (a := e) (xs := l.map V.str)) (fun i H2 => H2 D = some (.lst (((l.take i).filter b).map V.str)) ∧ Same H1 H2) ⟨upd_same, same_new nD⟩ (fun i H2 _ h => SqL.of (h.2 e _ he)) ?_ ?_
  · rintro i x H2 H2' hi ⟨hD, sm⟩ ⟨rfl, hx⟩
    rw [List.getElem?_map] at hx
    cases hy : l[i]? with
    | none => rw [hy] at hx; cases hx
    | some z =>
      rw [hy] at hx
      have hx' : V.str z = x := Option.some.inj hx
      subst hx'
      have tk : l.take (i + 1) = l.take i ++ [z] := by rw [List.take_add_one, hy]; rfl
      refine ⟨hw z, ht z H2' _ (List.mem_of_getElem? hy) sm fun H3 s3 => ite2 (fun c => ?_) (fun c => ?_)⟩
      · refine ⟨.str z, hj z, _, s3 D _ hD, ?_, ?_, ?_⟩
        · rw [List.length_map]
          refine small1000 (Nat.le_trans (List.length_filter_le _ _) ?_)
          rw [List.length_take]; omega
        · rw [upd_same, tk, List.filter_append, List.map_append]
          show _ = some (HO.lst (_ ++ List.map _ (List.filter _ [z])))
          rw [List.filter_cons, if_pos c]; rfl
        · exact fun c o ec => by
            have nb : c ≠ D := ne_of_none ec nD
            rw [upd_ne nb]; exact s3 c o (sm c o ec)
      · refine ⟨?_, sm.trans s3⟩
        rw [s3 D _ hD, tk, List.filter_append]
        show _ = some (HO.lst (List.map _ (_ ++ List.filter _ [z])))
        rw [List.filter_cons, if_neg c]
        simp
  · rintro H2 ⟨hD, sm⟩
    rw [List.length_map, List.take_length] at hD
    exact hd H2 hD sm
end Nl
end
section
set_option maxHeartbeats 1000000
namespace Nl
open PySem PySem.Spec PyProof.Rows L2 Nt
/-! ### a cut between statements -/
def tMid (t : TS) : TS := fun D σ H => ∃ M : L2.St → Hp → Prop, t { D with nx := M } σ H ∧ ∀ σ' H', M σ' H' → D.nx σ' H'
theorem ps_mid {X : Cx} {st : Stmt} {t : TS} (h : PS X st t) : PS X st (tMid t) := by
  refine ⟨fun pins s σ H D I ⟨M, hw, hm⟩ => ?_⟩
  refine thn (h.run pins s σ _ _ I hw) fun f s1 q => ?_
  cases f with
  | next => obtain ⟨σ', H', I2, q⟩ := q; exact ⟨σ', H', I2, hm _ _ q⟩
  | brk => exact q
  | cont => exact q
  | ret v => exact q
/-! ### texts by their signs -/
theorem mk_toList (l : List Nat) : (⟨l.toArray⟩ : Str).cps.toList = l := by simp
theorem add_list (x y : Str) : (x ++ y).cps.toList = x.cps.toList ++ y.cps.toList := by rw [Str.cps_append, Array.toList_append]
theorem sIx_nat {n d : Nat} {k : Int} (h0 : 0 ≤ k) (h1 : k ≤ n) : HT.sIx n d (some k) = k.toNat := by
  unfold HT.sIx
  show (if k < 0 then (k + (n : Int)).toNat else min k.toNat n) = k.toNat
  rw [if_neg (by omega)]
  omega
theorem sIx_none (n d : Nat) : HT.sIx n d none = d := rfl
theorem cut_to {z : Str} {k : Int} (h0 : 0 ≤ k) (h1 : k ≤ z.length) : (cutS z none (some k)).cps.toList = z.cps.toList.take k.toNat := by
  unfold cutS
  rw [mk_toList, sIx_none, sIx_nat h0 h1, List.drop_zero, Nat.sub_zero]
theorem cut_from {z : Str} {k : Int} (h0 : 0 ≤ k) (h1 : k ≤ z.length) : (cutS z (some k) none).cps.toList = z.cps.toList.drop k.toNat := by
  unfold cutS
  rw [mk_toList, sIx_none, sIx_nat h0 h1]
  refine List.take_of_length_le ?_
  rw [List.length_drop, ← len_list]
  exact Nat.le_refl _
theorem cut_all {z : Str} {k : Int} (h0 : 0 ≤ k) (h1 : (z.length : Int) < k) : (cutS z none (some k)).cps.toList = z.cps.toList := by
  unfold cutS
  rw [mk_toList, sIx_none, List.drop_zero, Nat.sub_zero]
  refine List.take_of_length_le ?_
  rw [← len_list]
  show z.length ≤ if k < 0 then (k + (z.length : Int)).toNat else min k.toNat z.length
  rw [if_neg (by omega)]
  omega
theorem cut_mem {z : Str} {lo hi : Option Int} {c : Nat} (h : c ∈ (cutS z lo hi).cps.toList) : c ∈ z.cps.toList := by
  unfold cutS at h
  rw [mk_toList] at h
  exact List.mem_of_mem_drop (List.mem_of_mem_take h)
def Ab (z : Str) : Prop := ∀ c ∈ z.cps.toList, c ∈ abc.cps.toList
theorem Nm.ab {z : Str} (h : Nm z) : Ab z := (Nm.iff.mp h).2
theorem nm_of {z : Str} (a : Ab z) (h1 : 1 ≤ z.cps.toList.length) (h8 : z.cps.toList.length ≤ 8) : Nm z := Nm.iff.mpr ⟨by rw [len_list]; exact ⟨h1, h8⟩, a⟩
theorem Ab.sm {z : Str} (a : Ab z) {n : Nat} (h : z.cps.toList.length ≤ n) : Sm n z := ⟨by rw [len_list]; exact h, fun c hc => abc_small c (a c hc)⟩
theorem Ab.add {x y : Str} (a : Ab x) (b : Ab y) : Ab (x ++ y) := fun c hc => by
  rw [add_list] at hc
  exact (List.mem_append.mp hc).elim (a c) (b c)
theorem Ab.cut {z : Str} (a : Ab z) (lo hi : Option Int) : Ab (cutS z lo hi) := fun c hc => a c (cut_mem hc)
theorem abc_len : abc.length = 26 := by decide +kernel
theorem abc_len2 : abc.cps.toList.length = 26 := by decide +kernel
theorem abc_at {d : Int} (h0 : 0 ≤ d) (h1 : d < 26) : ∃ c, atI abc.cps.toList d = some c ∧ c ∈ abc.cps.toList ∧ abc.cps.toList[d.toNat]? = some c := by
  obtain ⟨j, rfl⟩ : ∃ j : Nat, d = (j : Int) := ⟨d.toNat, by omega⟩
  have hj : j < abc.cps.toList.length := by rw [abc_len2]; omega
  exact ⟨abc.cps.toList[j], atI_nat (List.getElem?_eq_getElem hj), List.getElem_mem hj, List.getElem?_eq_getElem hj⟩
theorem join_nil_list : ∀ ys : List Str, (Txt.join Str.empty ys).cps.toList = (ys.map (fun y => y.cps.toList)).flatten := by
  intro ys
  rw [TL.join_eq]
  induction ys with
  | nil => rfl
  | cons x r ih =>
    cases r with
    | nil => simp [Str.join]
    | cons y r =>
      show (x ++ Str.empty ++ Str.join Str.empty (y :: r)).cps.toList = _
      rw [Str.cps_append, Array.toList_append, ih, Str.cps_append, Array.toList_append]
      simp [Str.empty]
def sg (c : Nat) : Str := ⟨#[c]⟩
theorem join_sg (cs : List Nat) : (Txt.join Str.empty (cs.map sg)).cps.toList = cs := by
  rw [join_nil_list]
  induction cs with
  | nil => rfl
  | cons c cs ih =>
    rw [List.map_cons, List.map_cons, List.flatten_cons, ih]
    rfl
theorem lens_sg (cs : List Nat) : ((cs.map sg).map (·.length)).sum = cs.length := by
  induction cs with
  | nil => rfl
  | cons c cs ih =>
    rw [List.map_cons, List.map_cons, List.sum_cons, ih, List.length_cons]
    show 1 + _ = _
    omega
theorem PotAt.same {H H' : Hp} {p : Addr} (h : PotAt H p) (s : Same H H') : PotAt H' p := by
  obtain ⟨a, b, hp, hab⟩ := h
  exact ⟨a, b, s _ _ hp, hab⟩
/-! ### a name that is not taken yet -/
def cand (z : Str) (k : Nat) : Str := z ++ sg (abc.cps.toList.getD (k / 26) 0) ++ sg (abc.cps.toList.getD (k % 26) 0)
theorem abc_inj : ∀ i j : Nat, i < 26 → j < 26 → abc.cps.toList.getD i 0 = abc.cps.toList.getD j 0 → i = j := by
  have h : ∀ i : Fin 26, ∀ j : Fin 26, abc.cps.toList.getD i.1 0 = abc.cps.toList.getD j.1 0 → i = j := by decide +kernel
  intro i j hi hj e
  have := h ⟨i, hi⟩ ⟨j, hj⟩ e
  exact congrArg Fin.val this
theorem cand_list (z : Str) (k : Nat) : (cand z k).cps.toList = z.cps.toList ++ [abc.cps.toList.getD (k / 26) 0, abc.cps.toList.getD (k % 26) 0] := by
  unfold cand
  rw [add_list, add_list, List.append_assoc]; rfl
theorem cand_inj {z : Str} {i j : Nat} (hi : i < 90) (hj : j < 90) (e : cand z i = cand z j) : i = j := by
  have h := congrArg (fun s : Str => s.cps.toList) e
  simp only [cand_list] at h
  have h2 := List.append_cancel_left h
  have h3 : abc.cps.toList.getD (i / 26) 0 = abc.cps.toList.getD (j / 26) 0 := by
    injection h2
  have h4 : abc.cps.toList.getD (i % 26) 0 = abc.cps.toList.getD (j % 26) 0 := by
    injection h2 with _ h5
    injection h5
  have a := abc_inj (i / 26) (j / 26) (by omega) (by omega) h3
  have b := abc_inj (i % 26) (j % 26) (by omega) (by omega) h4
  omega
theorem cand_nd (z : Str) : ((List.range 90).map (cand z)).Nodup := by
  unfold List.Nodup
  rw [List.pairwise_map]
  exact List.Pairwise.imp_of_mem (fun {a b} ha hb h e => h (cand_inj (List.mem_range.mp ha) (List.mem_range.mp hb) e)) (List.nodup_range (n := 90))
theorem cand_free {z : Str} {L : List Str} (h : L.length < 90) : (((List.range 90).map (cand z)).filter fun x => !decide (x ∈ L)) ≠ [] := by
  intro e
  have := len_le_of_sub (cand_nd z) (m := L) fun x hx => by
    by_cases hm : x ∈ L
    · exact hm
    · have : x ∈ (((List.range 90).map (cand z)).filter fun x => !decide (x ∈ L)) := List.mem_filter.mpr ⟨hx, by rw [decide_eq_false hm]; rfl⟩
      rw [e] at this
      exact absurd this List.not_mem_nil
  rw [List.length_map, List.length_range] at this
  omega
end Nl
end
section
set_option maxHeartbeats 2000000
namespace Rl
open PySem PySem.W PySem.Calls PyProof.Rows PyProof.V PySem.Spec DT
section
variable {K : Type} [DecidableEq K] {prog : Program} {w : World} {knd : HeapKind prog w K}
theorem meetsPop1 {d b : Addr} {k : K} (hd : (d == sysModules) = false) :
    MeetsIn prog w (Builtin.«dict.pop» ⟨[.ref d, .ref b], []⟩) (fun A R s => ∃ xs p, knd.room A.in1 ∧ knd.is s.heap k b ∧ s.heap.DictOfH knd d xs ∧ xs.length ≤ sizeLine ∧ atKey xs k = some p ∧
      ∀ h' tk, h'.DictOfH knd d (dropH xs k) → Heap.SameBut d s.heap h' → R (.ok (.ret p.2)) { s with heap := h', toks := tk }) :=
  .of_wp fun A R s ⟨xs, p0, hu, hkey, hm, hsz, hat, hsome⟩ => by
    obtain ⟨o, es, ep, ho, hc, hdat, he, his, hn⟩ := id hm
    have hes : es.size = xs.length := size_of_entries he
    have hpart : (keyPart (Value.ref b)).isSome = false := rfl
    unfold Builtin.«dict.pop»
    refine wpAny_bind ?_
    unfold Builtin.Dict.keyAndDefault
    refine wpAny_bind (wpAny_notOrdered_dict hm.typeIs ?_)
    show wpAny _ _ (pure (d, Value.ref b, none)) _ _ s
    refine wpAny_pure ?_
    simp only [hpart, Bool.false_eq_true, if_false]
    refine wpAny_bind (wpAny_dictEntries ho hdat (wpAny_bind (wpAny_pure ?_)))
    cases hem : es.isEmpty with
    | true =>
      have h0 : xs = [] := by
        have z : es.size = 0 := by simpa using hem
        exact List.length_eq_zero_iff.mp (by omega)
      rw [h0] at hat
      cases hat
    | false =>
      simp only [Bool.false_eq_true, if_false]
      refine wpAny_bind (takeH hu hkey hm hsz (fun hno => ?_) fun p e hp hev h' hm' hs' => ?_)
      · rw [hat] at hno; cases hno
      · simp only [Option.isNone_some, Bool.false_eq_true, if_false]
        rw [hat] at hp
        cases hp
        exact wpAny_bind (wpAny_letGo (wpAny_pure ⟨e.val, rfl, by rw [hev]; exact hsome h' _ hm' hs'⟩))
end
end Rl
namespace Rl
open PySem PySem.Spec PyProof.Rows L2 L2.DX
section
variable {X : Cx}
def rPopT1 : V → List V → Hp → VK → Prop := fun x xs H Q => ∃ (a : Addr) (kvs : List (List L2.Key × V)) (k : List L2.Key) (b : Addr) (v : V), x = .ref a ∧ xs = [.ref b] ∧ H a = some (.dT kvs) ∧ H b = some (.tup (k.map kV)) ∧ valV kvs k = some v ∧ Q v (upd H a (.dT (dropK kvs k)))
theorem mt_popT1 (hu : X.A.units + 1 < cLine) : MtR X "dict.pop" rPopT1 := by
  intro pins s σ H x xs v us Q I rx rxs h
  obtain ⟨a, kvs, k, b, v0, rfl, rfl, ha, hb, ev, q1⟩ := h
  cases rx
  obtain ⟨u1, rfl, r1⟩ : ∃ u1, us = [u1] ∧ RelV (.ref b) u1 := by
    cases rxs with
    | cons h t => cases t; exact ⟨_, rfl, h⟩
  cases r1
  obtain ⟨z, hd, xs', rel, dd⟩ := dt_of I.hok ha
  have hz : xs'.length ≤ sizeLine := by rw [← Paired.length rel]; exact z
  have r := rel.val k
  rw [ev] at r
  obtain ⟨p, hp, rv⟩ : ∃ p, atKey xs' k = some p ∧ RelV v0 p.2 := by
    cases e : atKey xs' k with
    | none => rw [e] at r; exact (show False from r).elim
    | some p => rw [e] at r; exact ⟨p, rfl, r⟩
  refine call_meetsIn PySem.F.slot_dict_pop dd.typeIs PySem.F.entry_dict_pop (PySem.F.args_dict_pop_2 _ _) (meetsPop1 (knd := tupleKind (mixKind X.prog X.w)) (k := k) hd)
    ⟨xs', p, tupleKind_room_in1 hu, key_of I.hok hb, dd, hz, hp, fun h' tk dd' hs => ?_⟩
  obtain ⟨o, es, ep, hq, h2, h3, h4, _, h5⟩ := dd'
  have I2 : Inv X pins σ (upd H a (.dT (dropK kvs k))) { s with heap := h', toks := tk } :=
    d_write I (by rw [ha]; exact True.intro) hs ⟨o, hq⟩ ⟨Nat.le_trans (dropK_le kvs k) z, hd, _, (KT_drop k rel).keeps (fun c ys ec => (by rw [upd_ne (ne_of ec ha (fun z => nomatch z))]; exact ec)), o, es, ep, hq, h2, h3, h4, h5⟩
  show EP X pins σ Q p.2 _
  exact ⟨v0, _, I2, rv, q1⟩
end
end Rl
end
section
set_option maxHeartbeats 1000000
namespace Nl
open PySem PySem.Spec PyProof.Rows L2 Nt
theorem sumOf_append (f : (Str × Str) × Int → Bool) (P R : Pi) : sumOf f (P ++ R) = sumOf f P + sumOf f R := by
  unfold sumOf
  rw [List.filter_append, List.map_append, List.sum_append]
theorem sumOf_one (f : (Str × Str) × Int → Bool) (p : (Str × Str) × Int) : sumOf f [p] = if f p = true then p.2 else 0 := by
  unfold sumOf
  by_cases h : f p = true
  · rw [List.filter_cons, if_pos h, if_pos h]; simp
  · rw [List.filter_cons, if_neg h, if_neg h]; rfl
theorem sumOf_split (f g : (Str × Str) × Int → Bool) (P : Pi) : sumOf f P = sumOf f (P.filter g) + sumOf f (P.filter fun p => !g p) := by
  induction P with
  | nil => rfl
  | cons p r ih =>
    have e : ∀ l : Pi, sumOf f (p :: l) = sumOf f [p] + sumOf f l := fun l => sumOf_append f [p] l
    rw [e r, ih]
    by_cases h : g p = true
    · rw [List.filter_cons, if_pos h, List.filter_cons, if_neg (by rw [h]; decide), e (List.filter g r)]
      omega
    · rw [List.filter_cons, if_neg h, List.filter_cons, if_pos (by simp [h]), e (List.filter (fun p => !g p) r)]
      omega
theorem outW_add (P : Pi) (q : Str × Str) (v : Int) (x : Str) : outW (P ++ [(q, v)]) x = outW P x + if q.1 = x then v else 0 := by
  unfold outW
  rw [sumOf_append, sumOf_one]
  by_cases h : q.1 = x
  · rw [if_pos (decide_eq_true h), if_pos h]
  · rw [if_neg (by simp [h]), if_neg h]
theorem inW_add (P : Pi) (q : Str × Str) (v : Int) (x : Str) : inW (P ++ [(q, v)]) x = inW P x + if q.2 = x then v else 0 := by
  unfold inW
  rw [sumOf_append, sumOf_one]
  by_cases h : q.2 = x
  · rw [if_pos (decide_eq_true h), if_pos h]
  · rw [if_neg (by simp [h]), if_neg h]
theorem wf_add {B : Br} {P : Pi} (wf : Wf Nm B P) {x y : Str} {v : Int} (hx : x ∈ nms B) (hy : y ∈ nms B) (ne : x ≠ y) (v1 : 1 ≤ v) (v60 : v ≤ 60) (fr : (x, y) ∉ P.map Prod.fst) (ln : P.length < 200) : Wf Nm B (P ++ [((x, y), v)]) where
  nb := wf.nb
  lb := wf.lb
  rb := wf.rb
  np := by
    rw [List.map_append, List.nodup_append]
    refine ⟨wf.np, by simp, fun a ha b hb e => ?_⟩
    have hb' : b = (x, y) := by simpa using hb
    exact fr (by rw [← hb', ← e]; exact ha)
  lp := by rw [List.length_append]; show P.length + 1 ≤ 200; omega
  rp := fun p hp => by
    rcases List.mem_append.mp hp with h | h
    · exact wf.rp p h
    · have : p = ((x, y), v) := by simpa using h
      subst this
      exact ⟨hx, hy, ne, v1, v60⟩
theorem fit_add {B : Br} {P : Pi} (wf : Wf Nm B P) (fit : Fit B P) {x y : Str} {c d v : Int} (hc : getB B x = some c) (hd : getB B y = some d) (h1 : v ≤ c - outW P x) (h2 : v ≤ d - inW P y) (v1 : 1 ≤ v) : Fit B (P ++ [((x, y), v)]) := fun p hp => by
  obtain ⟨f1, f2⟩ := fit p hp
  have g := getB_of_mem wf.nb (show (p.1, p.2) ∈ B from hp)
  rw [outW_add, inW_add]
  show outW P p.1 + (if x = p.1 then v else 0) ≤ p.2 ∧ inW P p.1 + (if y = p.1 then v else 0) ≤ p.2
  constructor
  · by_cases h : x = p.1
    · rw [if_pos h]
      rw [← h, hc] at g
      have : c = p.2 := Option.some.inj g
      rw [← h]; omega
    · rw [if_neg h]; omega
  · by_cases h : y = p.1
    · rw [if_pos h]
      rw [← h, hd] at g
      have : d = p.2 := Option.some.inj g
      rw [← h]; omega
    · rw [if_neg h]; omega
/-! ### one pipe less -/
def less (P : Pi) (q : Str × Str) : Pi := P.filter fun p => decide (p.1 ≠ q)
theorem drop_pt (P : Pi) (q : Str × Str) : dropK (pt P) (Rl.pk q) = pt (less P q) := by
  unfold dropK pt less
  rw [List.filter_map]
  congr 1
  refine List.filter_congr fun p _ => ?_
  show decide (Rl.pk p.1 ≠ Rl.pk q) = decide (p.1 ≠ q)
  by_cases h : p.1 = q
  · rw [h]; simp
  · rw [decide_eq_true (show p.1 ≠ q from h)]
    exact decide_eq_true fun e => h (Rl.pk_inj e)
theorem less_sub {P : Pi} {q : Str × Str} {p : (Str × Str) × Int} (h : p ∈ less P q) : p ∈ P := (List.mem_filter.mp h).1
theorem wf_less {B : Br} {P : Pi} (wf : Wf Nm B P) (q : Str × Str) : Wf Nm B (less P q) where
  nb := wf.nb
  lb := wf.lb
  rb := wf.rb
  np := wf.np.sublist (List.filter_sublist.map _)
  lp := Nat.le_trans (List.length_filter_le _ _) wf.lp
  rp := fun p hp => wf.rp p (less_sub hp)
theorem sum_less {B : Br} {P : Pi} (wf : Wf Nm B P) (q : Str × Str) (f : (Str × Str) × Int → Bool) : sumOf f (less P q) ≤ sumOf f P := by
  rw [sumOf_split f (fun p => decide (p.1 ≠ q)) P]
  have := sumOf_nonneg (f := f) (P := P.filter fun p => !decide (p.1 ≠ q)) fun p hp => by
    have := (wf.rp p (List.mem_filter.mp hp).1).2.2.2.1
    omega
  unfold less
  omega
theorem fit_less {B : Br} {P : Pi} (wf : Wf Nm B P) (fit : Fit B P) (q : Str × Str) : Fit B (less P q) := fun p hp => by
  obtain ⟨f1, f2⟩ := fit p hp
  have := sum_less wf q (fun r => decide (r.1.1 = p.1))
  have := sum_less wf q (fun r => decide (r.1.2 = p.1))
  unfold outW inW at *
  omega
theorem sumOf_ge {B : Br} {P : Pi} (wf : Wf Nm B P) {f : (Str × Str) × Int → Bool} {R : Pi} (hs : ∀ p ∈ R, p ∈ P) {p : (Str × Str) × Int} (hp : p ∈ R) (hf : f p = true) : 1 ≤ sumOf f R := by
  obtain ⟨l, r, rfl⟩ := List.append_of_mem hp
  rw [sumOf_append, show p :: r = [p] ++ r from rfl, sumOf_append, sumOf_one, if_pos hf]
  have nn : ∀ R' : Pi, (∀ q ∈ R', q ∈ l ++ p :: r) → 0 ≤ sumOf f R' := fun R' h => sumOf_nonneg fun q hq => by
    have := (wf.rp q (hs q (h q hq))).2.2.2.1
    omega
  have h1 := nn l fun q hq => List.mem_append_left _ hq
  have h2 := nn r fun q hq => List.mem_append_right _ (List.mem_cons_of_mem _ hq)
  have h3 := (wf.rp p (hs p hp)).2.2.2.1
  omega
theorem out_less {B : Br} {P : Pi} (wf : Wf Nm B P) {x y : Str} {v : Int} (h : ((x, y), v) ∈ P) : outW (less P (x, y)) x < outW P x := by
  unfold outW
  rw [sumOf_split (fun p => decide (p.1.1 = x)) (fun p => decide (p.1 ≠ (x, y))) P]
  have := sumOf_ge wf (f := fun p => decide (p.1.1 = x)) (R := P.filter fun p => !decide (p.1 ≠ (x, y))) (fun p hp => (List.mem_filter.mp hp).1) (p := ((x, y), v)) (List.mem_filter.mpr ⟨h, by simp⟩) (decide_eq_true rfl)
  unfold less
  omega
/-- a way out stays, and the pond that lost its pipe soaks -/
theorem opn_less {B : Br} {P : Pi} (wf : Wf Nm B P) (fit : Fit B P) {x y : Str} {v : Int} (h : ((x, y), v) ∈ P) : Opn B (less P (x, y)) x ∧ ∀ z, Opn B P z → Opn B (less P (x, y)) z := by
  have hx : Opn B (less P (x, y)) x := by
    obtain ⟨c, hc⟩ := getB_some (wf.rp _ h).1
    have m := getB_mem hc
    have f := (fit _ m).1
    have o := out_less wf h
    exact .soak m (by
      show outW (less P (x, y)) x < c
      have f' : outW P x ≤ c := f
      omega)
  refine ⟨hx, fun z o => ?_⟩
  induction o with
  | @soak z b m l =>
    refine .soak m ?_
    have := sum_less wf (x, y) (fun r => decide (r.1.1 = z))
    unfold outW at *
    omega
  | @step a b w m _ ih =>
    by_cases e : (a, b) = (x, y)
    · have : a = x := congrArg Prod.fst e
      rw [this]; exact hx
    · exact .step (List.mem_filter.mpr ⟨m, decide_eq_true e⟩) ih
/-- at most n ponds have no way out -/
def Few (B : Br) (P : Pi) (n : Nat) : Prop := ∀ L : List Str, L.Nodup → (∀ x ∈ L, x ∈ nms B ∧ ¬ Opn B P x) → L.length ≤ n
theorem few_all {B : Br} {P : Pi} : Few B P B.length := fun L nd h => by
  have := len_le_of_sub nd (m := nms B) fun x hx => (h x hx).1
  rw [nms_len] at this
  exact this
theorem few_less {B : Br} {P : Pi} (wf : Wf Nm B P) (fit : Fit B P) {x y : Str} {v : Int} (h : ((x, y), v) ∈ P) (cx : ¬ Opn B P x) {n : Nat} (f : Few B P (n + 1)) : Few B (less P (x, y)) n := fun L nd hl => by
  obtain ⟨ox, keep⟩ := opn_less wf fit h
  have := f (x :: L) (List.nodup_cons.mpr ⟨fun m => (hl x m).2 ox, nd⟩) fun z hz => by
    rcases List.mem_cons.mp hz with rfl | hz
    · exact ⟨(wf.rp _ h).1, cx⟩
    · exact ⟨(hl z hz).1, fun o => (hl z hz).2 (keep z o)⟩
  rw [List.length_cons] at this
  omega
theorem few_none {B : Br} {P : Pi} (h : ∀ x, x ∈ nms B → Opn B P x) (n : Nat) : Few B P n := fun L nd hl => by
  cases L with
  | nil => exact Nat.zero_le _
  | cons x l => exact absurd (h x (hl x List.mem_cons_self).1) (hl x List.mem_cons_self).2
theorem few_zero {B : Br} {P : Pi} (f : Few B P 0) : ∀ x ∈ nms B, Opn B P x := fun x hx => by
  by_cases o : Opn B P x
  · exact o
  · have := f [x] (by simp) fun z hz => by
      have : z = x := by simpa using hz
      subst this; exact ⟨hx, o⟩
    exact absurd this (by show ¬ (1 ≤ 0); decide)
/-- a closed pond has a pipe -/
theorem closed_pipe {B : Br} {P : Pi} (wf : Wf Nm B P) {x : Str} (hx : x ∈ nms B) (cx : ¬ Opn B P x) : ∃ y v, ((x, y), v) ∈ P := by
  obtain ⟨c, hc⟩ := getB_some hx
  have m := getB_mem hc
  have c1 := (wf.rb _ m).2.1
  have nl : ¬ outW P x < c := fun l => cx (.soak m l)
  cases hf : P.filter fun p => decide (p.1.1 = x) with
  | nil =>
    have : outW P x = 0 := by unfold outW sumOf; rw [hf]; rfl
    have c1' : 1 ≤ c := c1
    omega
  | cons p r =>
    have hp : p ∈ P.filter fun p => decide (p.1.1 = x) := by rw [hf]; exact List.mem_cons_self
    obtain ⟨h1, h2⟩ := List.mem_filter.mp hp
    have e : p.1.1 = x := of_decide_eq_true h2
    exact ⟨p.1.2, p.2, by rw [← e]; exact h1⟩
end Nl
end
section
set_option maxHeartbeats 2000000
namespace Nl
open PySem PySem.Spec PyProof.Rows L2 Nt
theorem pair_lc {K : PySem.W.Frag} {qs : List (Addr × (Str × Str))} {e D : Addr} {H1 : Hp} {σ : L2.St} {jv jn : Nat} {z : Str} {Qd : Hp → Prop} (ln : qs.length ≤ 900) (he : H1 e = some (.lst (qs.map fun q => V.ref q.1))) (nD : H1 D = none)
    (hq : ∀ q ∈ qs, H1 q.1 = some (.tup [.str q.2.1, .str q.2.2]))
    (hv : ∀ q : Addr, ((wipe σ [jv]).set jv (some (.ref q)))[jv]? = some (some (V.ref q))) (hn : ∀ q : Addr, ((wipe σ [jv]).set jv (some (.ref q)))[jn]? = some (some (V.str z)))
    (hw : ∀ q : Addr, wipe ((wipe σ [jv]).set jv (some (.ref q))) [jv] = wipe σ [jv])
    (hd : ∀ H2, H2 D = some (.lst ((qs.filter fun q => decide (q.2.1 = z)).map fun q => V.ref q.1)) → Same H1 H2 → Qd H2) :
    ∃ W : Nat → Nat → Hp → Prop, (∃ m, W 0 m (upd H1 D (.lst []))) ∧ ∀ i m H, W i m H →
      ((Itl K e).stop i H ∧ Qd H) ∨ ((Itl K e).go i H ∧ ∃ Nx : Hp → Prop, (∀ H', Nx H' → ∃ m', m' < m ∧ W (i + 1) m' H') ∧
        ∀ x H', (Itl K e).yld i H x H' → gName jv x (wipe σ [jv]) H' fun σ2 H2 => wipe σ2 [jv] = wipe σ [jv] ∧ tTest (tOp rEq (tOp (rIxT K) (tVar jv) (tC (.int 0))) (tVar jn)) σ2 H2 fun b H3 =>
          if b = true then tVar jv σ2 H3 fun y H4 => ∃ acc, H4 D = some (.lst acc) ∧ acc.length < sizeLine ∧ Nx (upd H4 D (.lst (acc ++ [y]))) else Nx H3) := by
  refine lc_it (walk_list (K := K) (a := e) (xs := qs.map fun q => V.ref q.1)) (fun i H2 => H2 D = some (.lst (((qs.take i).filter fun q => decide (q.2.1 = z)).map fun q => V.ref q.1)) ∧ Same H1 H2) ⟨upd_same, same_new nD⟩ (fun i H2 _ h => SqL.of (h.2 e _ he)) ?_ ?_
  · rintro i x H2 H2' hi ⟨hD, sm⟩ ⟨rfl, hx⟩
    rw [List.getElem?_map] at hx
    cases hy : qs[i]? with
    | none => rw [hy] at hx; cases hx
    | some q =>
      rw [hy] at hx
      have hx' : V.ref q.1 = x := Option.some.inj hx
      subst hx'
      have tk : qs.take (i + 1) = qs.take i ++ [q] := by rw [List.take_add_one, hy]; rfl
      refine ⟨hw q.1, .ref q.1, hv q.1, q.1, [.str q.2.1, .str q.2.2], 0, .str q.2.1, rfl, rfl, SqT.of (sm _ _ (hq q (List.mem_of_getElem? hy))), atI_nat (j := 0) rfl, .str z, hn q.1, rfl, _, rfl, ?_⟩
      rw [decStr]
      refine ite2 (fun c => ?_) (fun c => ?_)
      · refine ⟨.ref q.1, hv q.1, _, hD, ?_, ?_, ?_⟩
        · rw [List.length_map]
          refine small1000 (Nat.le_trans (List.length_filter_le _ _) ?_)
          rw [List.length_take]; omega
        · rw [upd_same, tk, List.filter_append, List.map_append]
          show _ = some (HO.lst (_ ++ List.map _ (List.filter _ [q])))
          rw [List.filter_cons, if_pos c]; rfl
        · exact fun c o ec => by
            have nb : c ≠ D := ne_of_none ec nD
            rw [upd_ne nb]; exact sm c o ec
      · refine ⟨?_, sm⟩
        rw [hD, tk, List.filter_append]
        show _ = some (HO.lst (List.map _ (_ ++ List.filter _ [q])))
        rw [List.filter_cons, if_neg c]
        simp
  · rintro H2 ⟨hD, sm⟩
    rw [List.length_map, List.take_length] at hD
    exact hd H2 hD sm
theorem str_at {L : List Str} {d : Int} (h0 : 0 ≤ d) (h1 : d < L.length) : ∃ x, atI (L.map V.str) d = some (.str x) ∧ x ∈ L := by
  obtain ⟨j, rfl⟩ : ∃ j : Nat, d = (j : Int) := ⟨d.toNat, by omega⟩
  have hj : j < L.length := by omega
  exact ⟨L[j], atI_nat (by rw [List.getElem?_map, List.getElem?_eq_getElem hj]; rfl), List.getElem_mem hj⟩
theorem nms_at {B : Br} {i : Nat} {v : V} (h : ((nms B).map V.str)[i]? = some v) : ∃ x, v = .str x ∧ (nms B)[i]? = some x := by
  rw [List.getElem?_map] at h
  cases e : (nms B)[i]? with
  | none => rw [e] at h; cases h
  | some x => rw [e] at h; exact ⟨x, (Option.some.inj h).symm, rfl⟩
end Nl
end
section
set_option maxHeartbeats 1000000
namespace Nl
open PySem PySem.Spec PyProof.Rows L2 Nt
/-! ### what a stand tells is the same, whatever the order of the dicts -/
theorem val0_of_mem {B : Br} (nd : (nms B).Nodup) {x : Str} {c : Int} (h : (x, c) ∈ B) : val0 B x = c := by
  unfold val0
  rw [getB_of_mem nd h]; rfl
theorem val0_perm {B B' : Br} (pm : B.Perm B') (nd : (nms B).Nodup) (x : Str) : val0 B x = val0 B' x := by
  have nd' : (nms B').Nodup := (pm.map Prod.fst).nodup_iff.mp nd
  by_cases h : x ∈ nms B
  · obtain ⟨p, hp, e⟩ := List.mem_map.mp h
    have e' : p.1 = x := e
    rw [← e', val0_of_mem nd (show (p.1, p.2) ∈ B from hp), val0_of_mem nd' (show (p.1, p.2) ∈ B' from pm.mem_iff.mp hp)]
  · have h' : x ∉ nms B' := fun m => h ((pm.map Prod.fst).mem_iff.mpr m)
    unfold val0
    rw [getB_none h, getB_none h']
theorem insOf_perm {P P' : Pi} (pm : P.Perm P') (z : Str) : (insOf P z).Perm (insOf P' z) := (pm.filter _).map _
theorem waterOf_same {B B' Qp Qp' Qc Qc' : Br} {P P' : Pi} (pB : B.Perm B') (nd : (nms B).Nodup) (pP : P.Perm P') {z : Str} (hz : z ∈ nms B) (rp : ∀ r ∈ P, r.1.1 ∈ nms B) (hp : ∀ x ∈ nms B, val0 Qp x = val0 Qp' x) (hc : ∀ x ∈ nms B, val0 Qc x = val0 Qc' x) :
    waterOf B P Qp Qc z = waterOf B' P' Qp' Qc' z := by
  unfold waterOf
  rw [hp z hz, hc z hz, val0_perm pB nd z]
  have e1 : ((insOf P z).map fun p => p.2 * val0 Qc p.1) = (insOf P z).map fun p => p.2 * val0 Qc' p.1 := List.map_congr_left fun p h => by
    rw [hc p.1 (rp _ (insOf_mem h))]
  have e2 := perm_sum ((insOf_perm pP z).map fun p => p.2 * val0 Qc' p.1)
  rw [e1, e2]
end Nl
end
section
set_option maxHeartbeats 1000000
namespace Nl
open PySem PySem.Spec PyProof.Rows L2 Nt
/-! ### sorted in one way -/
theorem str_ext {x y : Str} (h : x.cps.toList = y.cps.toList) : x = y := by
  cases x with
  | mk a =>
    cases y with
    | mk b =>
      have : a = b := Array.toList_inj.mp h
      rw [this]
theorem rising_pw : ∀ (l : List Str) (p : Str), risingS p l = true → (p :: l).Pairwise (fun a b => a.cps.toList ≤ b.cps.toList)
  | [], p, _ => List.pairwise_singleton _ _
  | x :: r, p, h => by
    have h' : (!ltCps x.cps.toList p.cps.toList && risingS x r) = true := h
    obtain ⟨h1, h2⟩ := Bool.and_eq_true_iff.mp h'
    have ih := rising_pw r x h2
    rw [ltCps_eq] at h1
    have hpx : p.cps.toList ≤ x.cps.toList := fun z => by
      rw [decide_eq_true z] at h1; cases h1
    refine List.pairwise_cons.mpr ⟨fun y hy => ?_, ih⟩
    rcases List.mem_cons.mp hy with rfl | hy
    · exact hpx
    · exact List.le_trans hpx ((List.pairwise_cons.mp ih).1 y hy)
theorem sorted_pw {l : List Str} (h : sortedS l = true) : l.Pairwise (fun a b => a.cps.toList ≤ b.cps.toList) := by
  cases l with
  | nil => exact .nil
  | cons x r => exact rising_pw r x h
theorem pw_uniq : ∀ {l m : List Str}, l.Perm m → l.Pairwise (fun a b => a.cps.toList ≤ b.cps.toList) → m.Pairwise (fun a b => a.cps.toList ≤ b.cps.toList) → l = m
  | [], m, pm, _, _ => (List.nil_perm.mp pm).symm
  | x :: r, [], pm, _, _ => absurd pm.length_eq (by simp)
  | x :: r, y :: t, pm, hl, hm => by
    have e : x = y := by
      have h1 : x ∈ y :: t := pm.mem_iff.mp List.mem_cons_self
      have h2 : y ∈ x :: r := pm.mem_iff.mpr List.mem_cons_self
      rcases List.mem_cons.mp h1 with e | h1
      · exact e
      · rcases List.mem_cons.mp h2 with e | h2
        · exact e.symm
        · exact str_ext (List.le_antisymm ((List.pairwise_cons.mp hl).1 y h2) ((List.pairwise_cons.mp hm).1 x h1))
    subst e
    rw [pw_uniq pm.cons_inv (List.pairwise_cons.mp hl).2 (List.pairwise_cons.mp hm).2]
theorem sorted_uniq {l m : List Str} (pm : l.Perm m) (hl : sortedS l = true) (hm : sortedS m = true) : l = m := pw_uniq pm (sorted_pw hl) (sorted_pw hm)
/-! ### a stand, told by the dicts that the law has -/
def mostOf (B : Br) (Pp : Pi) (Qp Qc : Br) (z : Str) : Int := if waterOf B Pp Qp Qc z / val0 B z > 0 then waterOf B Pp Qp Qc z / val0 B z else 0
def soakOf (B : Br) (Pp : Pi) (Qc : Br) : Int := (B.map fun p => (p.2 - outW Pp p.1) * val0 Qc p.1).sum
def StOf (CS C : Addr) (H : Hp) (s : Addr) (B : Br) (Pp : Pi) (Qp Qc : Br) : Prop := ∃ (B' : Br) (P' : Pi) (Qp' Qc' : Br), StandAt CS C H s B' P' Qp' Qc' ∧ Good B' P' ∧ B'.Perm B ∧ P'.Perm Pp ∧ sortedS (nms B') = true ∧ Full B' Qp' ∧ Full B' Qc' ∧
  (∀ x ∈ nms B, val0 Qp' x = val0 Qp x) ∧ (∀ x ∈ nms B, val0 Qc' x = val0 Qc x) ∧ ∀ x ∈ nms B, 0 ≤ val0 Qp x ∧ 0 ≤ val0 Qc x
theorem StOf.same {CS C : Addr} {H H' : Hp} {s : Addr} {B : Br} {Pp : Pi} {Qp Qc : Br} (h : StOf CS C H s B Pp Qp Qc) (sm : Same H H') : StOf CS C H' s B Pp Qp Qc := by
  obtain ⟨B', P', Qp', Qc', a, r⟩ := h
  exact ⟨B', P', Qp', Qc', a.same sm, r⟩
/-- the numbers alone count -/
theorem StOf.alike {CS C : Addr} {H : Hp} {s : Addr} {B : Br} {Pp : Pi} {Qp Qc Qc2 : Br} (h : StOf CS C H s B Pp Qp Qc) (e : ∀ x ∈ nms B, val0 Qc x = val0 Qc2 x) : StOf CS C H s B Pp Qp Qc2 := by
  obtain ⟨B', P', Qp', Qc', a, g, pB, pP, so, f1, f2, v1, v2, nn⟩ := h
  exact ⟨B', P', Qp', Qc', a, g, pB, pP, so, f1, f2, v1, fun x hx => (v2 x hx).trans (e x hx), fun x hx => ⟨(nn x hx).1, by rw [← e x hx]; exact (nn x hx).2⟩⟩
theorem sf_inj {n d1 d2 n' d1' d2' : Addr} (h : sf n d1 d2 = sf n' d1' d2') : n = n' ∧ d1 = d1' ∧ d2 = d2' := by
  have e1 := sf_n n d1 d2
  have e2 := sf_p n d1 d2
  have e3 := sf_c n d1 d2
  rw [h, sf_n] at e1
  rw [h, sf_p] at e2
  rw [h, sf_c] at e3
  cases e1
  cases e2
  cases e3
  exact ⟨rfl, rfl, rfl⟩
theorem nf_inj {d1 d1' : Addr} {d2 d2' : Dd} (h : nf d1 d2 = nf d1' d2') : d1 = d1' ∧ d2 = d2' := by
  have e1 := nf_b d1 d2
  have e2 := nf_w d1 d2
  have e3 := nf_o d1 d2
  have e4 := nf_i d1 d2
  rw [h, nf_b] at e1
  rw [h, nf_w] at e2
  rw [h, nf_o] at e3
  rw [h, nf_i] at e4
  obtain ⟨a, b, c⟩ := d2
  obtain ⟨a', b', c'⟩ := d2'
  cases e1
  cases e2
  cases e3
  cases e4
  exact ⟨rfl, rfl⟩
/-- none of the stand's own dicts is that one -/
def Off (CS C : Addr) (H : Hp) (s a : Addr) : Prop := ∃ dx n d1 d2 dxn e1 e2, H s = some (.ins CS dx (sf n d1 d2)) ∧ H n = some (.ins C dxn (nf e1 e2)) ∧ a ≠ d1 ∧ a ≠ d2 ∧ a ≠ e1 ∧ a ≠ e2.o ∧ a ≠ e2.i
theorem Off.keep {CS C : Addr} {H H' : Hp} {s a : Addr} (h : Off CS C H s a) (k : ∀ x C dx fs, H x = some (.ins C dx fs) → H' x = some (.ins C dx fs)) : Off CS C H' s a := by
  obtain ⟨dx, n, d1, d2, dxn, e1, e2, a1, a2, r⟩ := h
  exact ⟨dx, n, d1, d2, dxn, e1, e2, k _ _ _ _ a1, k _ _ _ _ a2, r⟩
theorem Off.same {CS C : Addr} {H H' : Hp} {s a : Addr} (h : Off CS C H s a) (k : Same H H') : Off CS C H' s a := h.keep fun x _ _ _ e => k x _ e
/-- that one may be anything, and the stand stands -/
theorem StOf.lock {CS C : Addr} {H : Hp} {s a : Addr} {B : Br} {Pp : Pi} {Qp Qc : Br} {u : List (Key × V)} (S : StOf CS C H s B Pp Qp Qc) (f : Off CS C H s a) (ha : H a = some (.dK u)) (x : HO) : StOf CS C (upd H a x) s B Pp Qp Qc ∧ Off CS C (upd H a x) s a := by
  obtain ⟨B', P', Qp', Qc', SA, r⟩ := S
  obtain ⟨dx, n, d1, d2, hs, N, h1, h2⟩ := SA.at_
  obtain ⟨dxn, e1, e2, hn, h3, h4, h5, h6⟩ := N.at_
  obtain ⟨dx', n', d1', d2', dxn', e1', e2', f1, f2, f3, f4, f5, f6, f7⟩ := id f
  rw [hs] at f1
  injection f1 with f1
  injection f1 with _ _ f1
  obtain ⟨rfl, rfl, rfl⟩ := sf_inj f1
  rw [hn] at f2
  injection f2 with f2
  injection f2 with _ _ f2
  obtain ⟨rfl, rfl⟩ := nf_inj f2
  have k : ∀ {y : Addr} {o : HO}, H y = some o → (∀ v, o ≠ .dK v) → (upd H a x) y = some o := fun {y o} e no => by
    have : y ≠ a := fun ey => by
      subst ey
      rw [ha] at e
      exact no u (Option.some.inj e).symm
    rw [upd_ne this]; exact e
  refine ⟨⟨B', P', Qp', Qc', ⟨dx, n, d1, d2, k hs (fun v e => by cases e), ⟨dxn, e1, e2, k hn (fun v e => by cases e), ?_, k h4 (fun v e => by cases e), h5.keep (fun x e => by rw [upd_ne (Ne.symm f6)]; exact e) (fun b oq xs e => k e (fun v e => by cases e)) (fun b xs e => k e (fun v e => by cases e)), h6.keep (fun x e => by rw [upd_ne (Ne.symm f7)]; exact e) (fun b oq xs e => k e (fun v e => by cases e)) (fun b xs e => k e (fun v e => by cases e))⟩, ?_, ?_⟩, r⟩, f.keep fun y _ _ _ e => k e (fun v e => by cases e)⟩
  · rw [upd_ne (Ne.symm f5)]; exact h3
  · rw [upd_ne (Ne.symm f3)]; exact h1
  · rw [upd_ne (Ne.symm f4)]; exact h2
/-! what the six of spills promise, as the law asks it -/
def spMost (CS C : Addr) : Sp := fun vs H Q _ => ∃ (s : Addr) (B : Br) (Pp : Pi) (Qp Qc : Br) (z : Str), vs = [.ref s, .str z] ∧ StOf CS C H s B Pp Qp Qc ∧ Good B Pp ∧ z ∈ nms B ∧ ∀ H', Same H H' → Q (.int (mostOf B Pp Qp Qc z)) H'
def spCan (CS C : Addr) : Sp := fun vs H Q _ => ∃ (s : Addr) (B : Br) (Pp : Pi) (Qp Qc : Br) (z : Str) (t : Int), vs = [.ref s, .str z, .int t] ∧ StOf CS C H s B Pp Qp Qc ∧ Good B Pp ∧ z ∈ nms B ∧ 1 ≤ t ∧ ∀ H', Same H H' → Q (.bl (decide (t ≤ mostOf B Pp Qp Qc z))) H'
def spSpilling (CS C : Addr) : Sp := fun vs H Q _ => ∃ (s : Addr) (B : Br) (Pp : Pi) (Qp Qc : Br), vs = [.ref s] ∧ StOf CS C H s B Pp Qp Qc ∧ Good B Pp ∧
  ∀ (H' : Hp) (r : Addr) (ys : List Str), Same H H' → H r = none → ys.Perm (nms B) → sortedS ys = true → H' r = some (.lst ((ys.filter fun z => decide (mostOf B Pp Qp Qc z > 0)).map V.str)) → Q (.ref r) H'
def spAtRest (CS C : Addr) : Sp := fun vs H Q _ => ∃ (s : Addr) (B : Br) (Pp : Pi) (Qp Qc : Br), vs = [.ref s] ∧ StOf CS C H s B Pp Qp Qc ∧ Good B Pp ∧ ∀ H', Same H H' → Q (.bl (decide (∀ z ∈ nms B, ¬ mostOf B Pp Qp Qc z > 0))) H'
def spSpilled (CS C : Addr) : Sp := fun vs H Q _ => ∃ (s : Addr) (B : Br) (Pp : Pi) (Qp Qc : Br) (z : Str) (t : Int), vs = [.ref s, .str z, .int t] ∧ StOf CS C H s B Pp Qp Qc ∧ Good B Pp ∧ z ∈ nms B ∧ 1 ≤ t ∧ t ≤ mostOf B Pp Qp Qc z ∧
  ∀ (H' : Hp) (r : Addr), Same H H' → H r = none → (∀ Qc2 : Br, (∀ x ∈ nms B, val0 Qc2 x = val0 Qc x + if x = z then t else 0) → StOf CS C H' r B Pp Qp Qc2) → (∀ a, Off CS C H s a → H a ≠ none → Off CS C H' r a) → Q (.ref r) H'
def spSoaked (CS C : Addr) : Sp := fun vs H Q _ => ∃ (s : Addr) (B : Br) (Pp : Pi) (Qp Qc : Br), vs = [.ref s] ∧ StOf CS C H s B Pp Qp Qc ∧ Good B Pp ∧ ∀ H', Same H H' → Q (.int (soakOf B Pp Qc)) H'
end Nl
end
section
set_option maxHeartbeats 4000000
namespace Nl
open PySem PySem.Spec PyProof.Rows L2 Nt
theorem mostOf_nonneg (B : Br) (Pp : Pi) (Qp Qc : Br) (z : Str) : 0 ≤ mostOf B Pp Qp Qc z := by
  unfold mostOf
  split <;> omega
/-- what the pot's turns leave as it is -/
theorem Kp.keep {p x : Addr} {H H' : Hp} {o : HO} (hP : PotAt H p) (k : Kp p H H') (h : H x = some o) (no : ∀ l, o ≠ .lst l) : H' x = some o := by
  obtain ⟨a, b, hp, _⟩ := hP
  refine k x o (fun e => ?_) h
  subst e
  rw [hp] at h
  exact no _ (Option.some.inj h).symm
theorem NetAt.kp {C p n : Addr} {H H' : Hp} {B : Br} {Pp : Pi} (hP : PotAt H p) (k : Kp p H H') (h : NetAt C H n B Pp) : NetAt C H' n B Pp := by
  obtain ⟨dx, d1, d2, a, b, c, e, f⟩ := h
  have sd : ∀ {d : Addr} {g : Str → List (Str × Int)} {l : List Str}, SideAt H d g l → SideAt H' d g l := fun {d g l} S => by
    obtain ⟨ls, e1, _⟩ := id S
    exact S.keep (fun x e => by rw [e1] at e; cases e; exact k.keep hP e1 (fun v e => by cases e)) (fun b oq xs e => k.keep hP e (fun v e => by cases e)) (fun b xs e => k.keep hP e (fun v e => by cases e))
  exact ⟨dx, d1, d2, k.keep hP a (fun l e => by cases e), k.keep hP b (fun l e => by cases e), k.keep hP c (fun l e => by cases e), sd e, sd f⟩
theorem StandAt.kp {CS C p s : Addr} {H H' : Hp} {B : Br} {Pp : Pi} {Qp Qc : Br} (hP : PotAt H p) (k : Kp p H H') (h : StandAt CS C H s B Pp Qp Qc) : StandAt CS C H' s B Pp Qp Qc := by
  obtain ⟨dx, n, d1, d2, a, b, c, d⟩ := h
  exact ⟨dx, n, d1, d2, k.keep hP a (fun l e => by cases e), b.kp hP k, k.keep hP c (fun l e => by cases e), k.keep hP d (fun l e => by cases e)⟩
theorem StOf.kp {CS C p s : Addr} {H H' : Hp} {B : Br} {Pp : Pi} {Qp Qc : Br} (hP : PotAt H p) (k : Kp p H H') (h : StOf CS C H s B Pp Qp Qc) : StOf CS C H' s B Pp Qp Qc := by
  obtain ⟨B', P', Qp', Qc', a, r⟩ := h
  exact ⟨B', P', Qp', Qc', a.kp hP k, r⟩
theorem Kp.free {p x : Addr} {H H' : Hp} (hP : PotAt H' p) (k : Kp p H H') (n : H' x = none) : H x = none := by
  cases e : H x with
  | none => rfl
  | some o =>
    have := k x o (hP.ne n) e
    rw [n] at this; cases this
/-! ### pairs made to a dict -/
theorem paired_of {K : PySem.W.Frag} {H : Hp} : ∀ {as : List Addr} {l : List (Str × Int)}, PairsAt H as l → Paired (fun p (kv : Key × V) => SqT K H p [kV kv.1, kv.2]) as (bk l)
  | [], [], _ => .nil
  | [], x :: l, h => absurd h.1 (by simp)
  | a :: as, [], h => absurd h.1 (by simp)
  | a :: as, x :: l, h => by
    obtain ⟨q, e1, e2⟩ := h.2 0 x rfl
    have e1' : a = q := Option.some.inj e1
    subst e1'
    refine .cons (SqT.of e2) (paired_of ⟨Nat.succ.inj h.1, fun i p e => ?_⟩)
    obtain ⟨q, f1, f2⟩ := h.2 (i + 1) p e
    exact ⟨q, f1, f2⟩
theorem merge_bk : ∀ (l m : Br), (nms (m ++ l)).Nodup → mergeK (bk m) (bk l) = bk (m ++ l)
  | [], m, _ => by rw [List.append_nil]; rfl
  | x :: l, m, nd => by
    have fr : x.1 ∉ nms m := by
      rw [nms_append, List.nodup_append] at nd
      exact fun h => nd.2.2 x.1 h x.1 (by show x.1 ∈ x.1 :: nms l; exact List.mem_cons_self) rfl
    show mergeK (putK (bk m) (Sum.inr x.1) (.int x.2)) (bk l) = _
    rw [putK_bk fr, merge_bk l (m ++ [(x.1, x.2)]) (by rw [List.append_assoc]; exact nd), List.append_assoc]
    rfl
theorem eqv_strs {l : List Str} (h : ∀ z ∈ l, Sm 25 z) : PyData.eqv (.list (l.map PyData.str)) (.list (l.map PyData.str)) = true := SeqAt.eqv_refl _ (SeqAt.canLay_of_shaped (shaped_strs h))
theorem eqv_nil (l : List Str) : PyData.eqv (.list (l.map PyData.str)) (.list []) = l.isEmpty := by
  cases l <;> simp [PyData.eqv, PyData.eqvAll]
theorem shaped_nil : SeqAt.shaped (.list []) = true := by simp [SeqAt.shaped, PyData.canLay0, PyData.canLayAll0, PyData.depth, PyData.depthAll]
theorem all_trues : ∀ n : Nat, (List.replicate n true).all id = true
  | 0 => rfl
  | n + 1 => by rw [List.replicate_succ]; simp [all_trues n]
/-- all that is no list stays -/
def NL (H H' : Hp) : Prop := ∀ x o, H x = some o → (∀ q, o ≠ .lst q) → H' x = some o
theorem NL.trans {H H1 H2 : Hp} (a : NL H H1) (b : NL H1 H2) : NL H H2 := fun x o e n => b x o (a x o e n) n
theorem NL.of_same {H H' : Hp} (s : Same H H') : NL H H' := fun x o e _ => s x o e
theorem NL.of_kp {p : Addr} {H H' : Hp} (hP : PotAt H p) (k : Kp p H H') : NL H H' := fun x o e n => k.keep hP e n
theorem NL.lst {H : Hp} {l : Addr} {xs ys : List V} (h : H l = some (.lst xs)) : NL H (upd H l (.lst ys)) := fun x o e n => by
  have nx : x ≠ l := fun z => by subst z; rw [h] at e; exact n _ (Option.some.inj e).symm
  rw [upd_ne nx]; exact e
theorem NetAt.nl {C n : Addr} {H H' : Hp} {B : Br} {Pp : Pi} (k : NL H H') (h : NetAt C H n B Pp) : NetAt C H' n B Pp := by
  obtain ⟨dx, d1, d2, a, b, c, e, f⟩ := h
  have sd : ∀ {d : Addr} {g : Str → List (Str × Int)} {l : List Str}, SideAt H d g l → SideAt H' d g l := fun {d g l} S => by
    obtain ⟨ls, e1, _⟩ := id S
    exact S.keep (fun x e => by rw [e1] at e; cases e; exact k _ _ e1 (fun v e => by cases e)) (fun b oq xs e => k _ _ e (fun v e => by cases e)) (fun b xs e => k _ _ e (fun v e => by cases e))
  exact ⟨dx, d1, d2, k _ _ a (fun l e => by cases e), k _ _ b (fun l e => by cases e), k _ _ c (fun l e => by cases e), sd e, sd f⟩
theorem StOf.nl {CS C s : Addr} {H H' : Hp} {B : Br} {Pp : Pi} {Qp Qc : Br} (k : NL H H') (h : StOf CS C H s B Pp Qp Qc) : StOf CS C H' s B Pp Qp Qc := by
  obtain ⟨B', P', Qp', Qc', ⟨dx, n, d1, d2, a, b, c, d⟩, r⟩ := h
  exact ⟨B', P', Qp', Qc', ⟨dx, n, d1, d2, k _ _ a (fun l e => by cases e), b.nl k, k _ _ c (fun l e => by cases e), k _ _ d (fun l e => by cases e)⟩, r⟩
theorem NL.dk {H H' : Hp} {x : Addr} {u : List (Key × V)} (k : NL H H') (h : H x = some (.dK u)) : H' x = some (.dK u) := k _ _ h fun l e => by cases e
theorem NL.dt {H H' : Hp} {x : Addr} {u : List (List Key × V)} (k : NL H H') (h : H x = some (.dT u)) : H' x = some (.dT u) := k _ _ h fun l e => by cases e
/-- the stands that came ahead, with their counts -/
def Ah (CS C a : Addr) (B : Br) (Pp : Pi) (Qp : Br) (H : Hp) (ts : List Addr) : Prop := ∀ t ∈ ts, ∃ (s d : Addr) (Qc : Br), H t = some (.tup [.ref s, .ref d]) ∧ H d = some (.dK (bk Qc)) ∧ a ≠ d ∧ StOf CS C H s B Pp Qp Qc
theorem Ah.nl {CS C a : Addr} {B : Br} {Pp : Pi} {Qp : Br} {H H' : Hp} {ts : List Addr} (k : NL H H') (h : Ah CS C a B Pp Qp H ts) : Ah CS C a B Pp Qp H' ts := fun t m => by
  obtain ⟨s, d, Qc, e1, e2, e3, e4⟩ := h t m
  exact ⟨s, d, Qc, k _ _ e1 (fun l e => by cases e), k.dk e2, e3, e4.nl k⟩
/-! ### one number put into a dict -/
def putB (Q : Br) (z : Str) (v : Int) : Br := if z ∈ nms Q then Q.map (fun p => if p.1 = z then (p.1, v) else p) else Q ++ [(z, v)]
theorem putK_putB (Q : Br) (z : Str) (v : Int) : putK (bk Q) (Sum.inr z : Key) (.int v) = bk (putB Q z v) := by
  unfold putB
  by_cases h : z ∈ nms Q
  · rw [if_pos h]
    unfold putK
    have ha : ((bk Q).any fun kv => decide (kv.1 = (Sum.inr z : Key))) = true := by
      obtain ⟨p, hp, e⟩ := List.mem_map.mp h
      exact List.any_eq_true.mpr ⟨(Sum.inr p.1, .int p.2), List.mem_map.mpr ⟨p, hp, rfl⟩, decide_eq_true (by rw [show p.1 = z from e])⟩
    rw [if_pos ha]
    unfold bk
    rw [List.map_map, List.map_map]
    refine List.map_congr_left fun p _ => ?_
    show (if (Sum.inr p.1 : Key) = Sum.inr z then ((Sum.inr p.1 : Key), V.int v) else (Sum.inr p.1, V.int p.2)) = ((Sum.inr (if p.1 = z then (p.1, v) else p).1 : Key), V.int (if p.1 = z then (p.1, v) else p).2)
    by_cases e : p.1 = z
    · rw [if_pos (by rw [e]), if_pos e]
    · rw [if_neg (fun x => e (Sum.inr.inj x)), if_neg e]
  · rw [if_neg h, putK_bk h]
theorem putB_nms (Q : Br) (z : Str) (v : Int) : nms (putB Q z v) = if z ∈ nms Q then nms Q else nms Q ++ [z] := by
  unfold putB
  by_cases h : z ∈ nms Q
  · rw [if_pos h, if_pos h]
    unfold nms
    rw [List.map_map]
    refine List.map_congr_left fun p _ => ?_
    show (if p.1 = z then (p.1, v) else p).1 = p.1
    split <;> rfl
  · rw [if_neg h, if_neg h, nms_append]; rfl
theorem putB_nd {Q : Br} {z : Str} {v : Int} (nd : (nms Q).Nodup) : (nms (putB Q z v)).Nodup := by
  rw [putB_nms]
  by_cases h : z ∈ nms Q
  · rw [if_pos h]; exact nd
  · rw [if_neg h]
    exact List.nodup_append.mpr ⟨nd, by simp, fun x hx y hy e => by
      have e2 : y = z := by simpa using hy
      exact h (by rw [← e2, ← e]; exact hx)⟩
theorem putB_val (Q : Br) (z : Str) (v : Int) (x : Str) : val0 (putB Q z v) x = if x = z then v else val0 Q x := by
  have h := valV_put (bk Q) (Sum.inr z : Key) (Sum.inr x) (.int v)
  rw [putK_putB, valV_bk, valV_bk] at h
  unfold val0
  by_cases e : x = z
  · rw [if_pos e]
    rw [if_pos (by rw [e])] at h
    cases g : getB (putB Q z v) x with
    | none => rw [g] at h; cases h
    | some c =>
      rw [g] at h
      have := Option.some.inj h
      injection this
  · rw [if_neg e]
    rw [if_neg (fun y => e (Sum.inr.inj y))] at h
    cases g : getB (putB Q z v) x with
    | none =>
      rw [g] at h
      cases g2 : getB Q x with
      | none => rfl
      | some c => rw [g2] at h; cases h
    | some c =>
      rw [g] at h
      cases g2 : getB Q x with
      | none => rw [g2] at h; cases h
      | some c2 =>
        rw [g2] at h
        have h2 : V.int c = V.int c2 := Option.some.inj h
        injection h2 with h3
theorem val0_nonneg {Q : Br} (h : ∀ p ∈ Q, 0 ≤ p.2) (x : Str) : 0 ≤ val0 Q x := by
  unfold val0
  cases g : getB Q x with
  | none => exact Int.le_refl _
  | some c => exact h _ (getB_mem g)
/-- what Stand makes of a net and two tables -/
theorem stOf_new {CS C : Addr} {H : Hp} {s : Addr} {B B' : Br} {Pp P' : Pi} {Qp Qc : Br} (SA : StandAt CS C H s B' P' (fill B' Qp) (fill B' Qc)) (good : Good B Pp) (pB : B'.Perm B) (pP : P'.Perm Pp) (so : sortedS (nms B') = true) (np : ∀ p ∈ Qp, 0 ≤ p.2) (nc : ∀ p ∈ Qc, 0 ≤ p.2) :
    StOf CS C H s B Pp Qp Qc := by
  have g' : Good B' P' := good.perm pB.symm pP.symm
  have pm : (nms B').Perm (nms B) := pB.map Prod.fst
  exact ⟨B', P', _, _, SA, g', pB, pP, so, fill_full _ _, fill_full _ _, fun x hx => val0_fill g'.wf.nb (pm.mem_iff.mpr hx), fun x hx => val0_fill g'.wf.nb (pm.mem_iff.mpr hx), fun x _ => ⟨val0_nonneg np x, val0_nonneg nc x⟩⟩
end Nl
end
section
set_option maxHeartbeats 1000000
namespace Nl
open PySem PySem.Spec PyProof.Rows L2 Nt
section
variable {B B' : Br} {Pp P' : Pi} {Qp Qc Qp' Qc' : Br}
theorem water_same (g' : Good B' P') (pB : B'.Perm B) (pP : P'.Perm Pp) (v1 : ∀ x ∈ nms B, val0 Qp' x = val0 Qp x) (v2 : ∀ x ∈ nms B, val0 Qc' x = val0 Qc x) {z : Str} (mz : z ∈ nms B) : waterOf B' P' Qp' Qc' z = waterOf B Pp Qp Qc z := by
  have pm : (nms B').Perm (nms B) := pB.map Prod.fst
  exact waterOf_same pB g'.wf.nb pP (pm.mem_iff.mpr mz) (fun r hr => (g'.wf.rp r hr).1) (fun x hx => v1 x (pm.mem_iff.mp hx)) fun x hx => v2 x (pm.mem_iff.mp hx)
theorem most_same (g' : Good B' P') (pB : B'.Perm B) (pP : P'.Perm Pp) (v1 : ∀ x ∈ nms B, val0 Qp' x = val0 Qp x) (v2 : ∀ x ∈ nms B, val0 Qc' x = val0 Qc x) {z : Str} (mz : z ∈ nms B) : mostOf B' P' Qp' Qc' z = mostOf B Pp Qp Qc z := by
  unfold mostOf
  rw [water_same g' pB pP v1 v2 mz, val0_perm pB g'.wf.nb z]
theorem soak_same (pB : B'.Perm B) (pP : P'.Perm Pp) (v2 : ∀ x ∈ nms B, val0 Qc' x = val0 Qc x) : soakOf B' P' Qc' = soakOf B Pp Qc := by
  unfold soakOf
  rw [perm_sum (pB.map fun p => (p.2 - outW P' p.1) * val0 Qc' p.1)]
  congr 1
  refine List.map_congr_left fun p hp => ?_
  rw [outW_perm pP, v2 p.1 (List.mem_map.mpr ⟨p, hp, rfl⟩)]
end
/-- a stand made anew of a stand's own net and what's poured, one count more often -/
theorem stOf_next {CS C : Addr} {H : Hp} {s : Addr} {B B' : Br} {Pp P' : Pi} {Qp Qc Qp' Qc' Qd Qe Qc2 : Br} {z : Str} {t : Int} (SA : StandAt CS C H s B' P' (fill B' Qd) (fill B' Qe)) (g' : Good B' P') (pB : B'.Perm B) (pP : P'.Perm Pp) (so : sortedS (nms B') = true)
    (v1 : ∀ x ∈ nms B, val0 Qp' x = val0 Qp x) (v2 : ∀ x ∈ nms B, val0 Qc' x = val0 Qc x) (nn : ∀ x ∈ nms B, 0 ≤ val0 Qp x ∧ 0 ≤ val0 Qc x) (t0 : 0 ≤ t)
    (vd : ∀ x ∈ nms B, val0 Qd x = val0 Qp' x) (ve : ∀ x ∈ nms B, val0 Qe x = val0 Qc' x + if x = z then t else 0) (h2 : ∀ x ∈ nms B, val0 Qc2 x = val0 Qc x + if x = z then t else 0) : StOf CS C H s B Pp Qp Qc2 := by
  have pm : (nms B').Perm (nms B) := pB.map Prod.fst
  refine ⟨B', P', _, _, SA, g', pB, pP, so, fill_full _ _, fill_full _ _, fun x hx => ?_, fun x hx => ?_, fun x hx => ⟨(nn x hx).1, ?_⟩⟩
  · rw [val0_fill g'.wf.nb (pm.mem_iff.mpr hx), vd x hx, v1 x hx]
  · rw [val0_fill g'.wf.nb (pm.mem_iff.mpr hx), ve x hx, h2 x hx, v2 x hx]
  · rw [h2 x hx]
    have := (nn x hx).2
    split <;> omega
section
variable {P : Program} {w : World} {K : PySem.W.Frag} {mg : Str → Option Value} {base : Heap}
theorem scMost : FnScope ["stand", "name"] ["stand", "name"] (defScope sMost) := ⟨rfl, rfl, rfl, by decide +kernel, rfl, by decide +kernel, by decide +kernel⟩
theorem ok_most {f CS C f1 f2 f3 : Addr} {fd fd1 fd2 fd3 : FuncData} (F : Fun K "most_spills" "most_spills" sMost f fd) (TN : TxN K mg C) (TS : TxS K mg CS)
    (m1 : Meth K CS "water" f1) (G1 : FnOk P w K mg base CX0 6 f1 fd1 ["self", "name"] (spWater CS C)) (b1 : Binds K fd1 ["self", "name"] [])
    (m2 : Meth K CS "net" f2) (G2 : FnOk P w K mg base CX0 1 f2 fd2 ["self"] (spSNet CS C)) (b2 : Binds K fd2 ["self"] [])
    (m3 : Meth K C "brim" f3) (G3 : FnOk P w K mg base CX0 5 f3 fd3 ["self", "name"] (spBrim C)) (b3 : Binds K fd3 ["self", "name"] []) (mx : mg "max" = none) :
    FnOk P w K mg base CX0 7 f fd ["stand", "name"] (spMost CS C) := by
  refine F.ok scMost (fun vs H Q E h => ?_) (fun cdv A outer s H vs Q E hr h => ?_)
  · obtain ⟨s, B, Pp, Qp, Qc, z, rfl, _⟩ := h
    rfl
  · obtain ⟨s, B, Pp, Qp, Qc, z, rfl, S, good, mz, q⟩ := h
    obtain ⟨B', P', Qp', Qc', SA, g', pB, pP, so, fp, fc, v1, v2, nn⟩ := S
    have pm : (nms B').Perm (nms B) := pB.map Prod.fst
    have mz' := pm.mem_iff.mpr mz
    obtain ⟨dx, n, d1, d2, hs, N, h1, h2⟩ := SA.at_
    obtain ⟨bz, gz⟩ := getB_some mz'
    have rz := g'.wf.rb _ (getB_mem gz)
    refine ⟨_, pss_one (ps_ret (pe_callB (call_max2 rfl) (by rfl) mx (by decide +kernel) (pa_cons pe_int (pa_cons (pe_op op_fdiv (pe_meth (pv 0) TS.cl m1 G1 hr b1 .nil pass0 (pa_cons (pv 1) pa_nil)) (pe_meth (pe_meth0 (pv 0) TS.cl m2 G2 (hr.mono (by decide)) b2 .nil pass0) TN.cl m3 G3 (hr.mono (by decide)) b3 .nil pass0 (pa_cons (pv 1) pa_nil))) pa_nil)))), ?_⟩
    refine ⟨.ref s, rfl, s, dx, _, rfl, hs, sf_no, .str z, rfl, s, B', P', Qp', Qc', z, rfl, SA, g', fp, fc, mz', fun H1 s1 => ?_⟩
    refine ⟨.ref s, rfl, s, dx, _, rfl, s1 s _ hs, sf_no, s, B', P', Qp', Qc', rfl, SA.same s1, fun n' N' _ => ?_⟩
    obtain ⟨dxn, e1, e2, hn, _, _⟩ := N'.at_
    refine ⟨n', dxn, _, rfl, hn, no_attr, .str z, rfl, n', B', P', z, bz, rfl, N', rz.1, gz, fun H2 s2 => ?_⟩
    have rz1 : 1 ≤ bz := rz.2.1
    have rz2 : bz ≤ 60 := rz.2.2
    refine ⟨_, _, rfl, rfl, ⟨by omega, by omega⟩, 0, _, rfl, ?_⟩
    have := q H2 (s1.trans s2)
    rw [← most_same g' pB pP v1 v2 mz] at this
    unfold mostOf at this
    rw [show val0 B' z = bz by unfold val0; rw [gz]; rfl] at this
    exact this
end
end Nl
end
section
set_option maxHeartbeats 1000000
namespace Nl
open PySem PySem.Spec PyProof.Rows L2 Nt
section
variable {P : Program} {w : World} {K : PySem.W.Frag} {mg : Str → Option Value} {base : Heap}
theorem scCkTimes : FnScope ["times"] ["times"] (defScope sCkTimes) := ⟨rfl, rfl, rfl, by decide +kernel, rfl, by decide +kernel, by decide +kernel⟩
def spCkTimes : Sp := fun vs H Q _ => ∃ (t : Int), vs = [.int t] ∧ 1 ≤ t ∧ Q .non H
theorem ok_ckTimes {f f3 : Addr} {fd fd3 : FuncData} (F : Fun K "check_times" "check_times" sCkTimes f fd)
    (F3 : Fun K "is_whole" "is_whole" sWhole f3 fd3) (G3 : FnOk P w K mg base CX0 1 f3 fd3 ["thing", "least"] spWhole) (b3 : Binds K fd3 ["thing", "least"] []) (g3 : mg "is_whole" = some (.ref f3)) :
    FnOk P w K mg base CX0 2 f fd ["times"] spCkTimes := by
  refine F.ok scCkTimes (fun vs H Q E h => ?_) (fun cdv A outer s H vs Q E hr h => ?_)
  · obtain ⟨t, rfl, _⟩ := h
    rfl
  · obtain ⟨t, rfl, t1, q⟩ := h
    refine ⟨_, pss_one (ps_if (pt_not (pt_val (pe_call G3 (hr.mono (by decide)) (by rfl) g3 F3.kp b3 .nil pass0 (pa_cons (pv 0) (pa_cons pe_int pa_nil))))) (pss_one ps_never) pss_nil), ?_⟩
    refine ⟨.int t, rfl, t, 1, rfl, ?_⟩
    rw [decide_eq_true (show t ≥ 1 from t1)]
    exact ⟨true, rfl, iteF q⟩
theorem scCan : FnScope ["stand", "name", "times", "most"] ["stand", "name", "times"] (defScope sCan) := ⟨rfl, rfl, rfl, by decide +kernel, rfl, by decide +kernel, by decide +kernel⟩
theorem ok_can {f CS C f1 f2 : Addr} {fd fd1 fd2 : FuncData} (F : FunD K "can_spill" "can_spill" (defArgs sCan) (defBody sCan) (defScope sCan) [.int 1] [] f fd)
    (F1 : Fun K "check_times" "check_times" sCkTimes f1 fd1) (G1 : FnOk P w K mg base CX0 2 f1 fd1 ["times"] spCkTimes) (b1 : Binds K fd1 ["times"] []) (g1 : mg "check_times" = some (.ref f1))
    (F2 : Fun K "most_spills" "most_spills" sMost f2 fd2) (G2 : FnOk P w K mg base CX0 7 f2 fd2 ["stand", "name"] (spMost CS C)) (b2 : Binds K fd2 ["stand", "name"] []) (g2 : mg "most_spills" = some (.ref f2)) :
    FnOk P w K mg base CX0 8 f fd ["stand", "name", "times"] (spCan CS C) := by
  refine F.ok scCan (fun vs H Q E h => ?_) (fun cdv A outer s H vs Q E hr h => ?_)
  · obtain ⟨s, B, Pp, Qp, Qc, z, t, rfl, _⟩ := h
    rfl
  · obtain ⟨s, B, Pp, Qp, Qc, z, t, rfl, S, good, mz, t1, q⟩ := h
    refine ⟨_, PSs.nox (pss_cons (ps_set (i := 3) scCan.nd rfl (by first | exact .inl rfl | exact .inr rfl) (pe_call G2 hr (by rfl) g2 F2.kp b2 .nil pass0 (pa_cons (pv 0) (pa_cons (pv 1) pa_nil))))
      (pss_cons (ps_expr (pe_call G1 (hr.mono (by decide)) (by rfl) g1 F1.kp b1 .nil pass0 (pa_cons (pv 2) pa_nil)))
      (pss_one (ps_ret (pe_cmpR op_le (pv 2) (pv 3) (nomark _)))))), ?_⟩
    refine ⟨.ref s, rfl, .str z, rfl, s, B, Pp, Qp, Qc, z, rfl, S, good, mz, fun H2 s2 => ?_⟩
    refine ⟨.int t, rfl, t, rfl, t1, ?_⟩
    exact ⟨.int t, rfl, .int _, rfl, _, _, rfl, rfl, q H2 s2⟩
end
end Nl
end
section
set_option maxHeartbeats 1000000
namespace Nl
open PySem PySem.Spec PyProof.Rows L2 Nt
section
variable {P : Program} {w : World} {K : PySem.W.Frag} {mg : Str → Option Value} {base : Heap}
theorem scSpilled : FnScope ["stand", "name", "times", "counts"] ["stand", "name", "times"] (defScope sSpilled) := ⟨rfl, rfl, rfl, by decide +kernel, rfl, by decide +kernel, by decide +kernel⟩
theorem ok_spilled {f CS C f1 f2 f3 f4 fSI : Addr} {fd fd1 fd2 fd3 fd4 fdSI : FuncData} {dsS : List Value} (F : FunD K "spilled" "spilled" (defArgs sSpilled) (defBody sSpilled) (defScope sSpilled) [.int 1] [] f fd) (TS : TxS K mg CS)
    (G1 : FnOk P w K mg base CX0 8 f1 fd1 ["stand", "name", "times"] (spCan CS C)) (k1 : PySem.W.keepIn K (.ref f1) = true) (b1 : Binds K fd1 ["stand", "name", "times"] []) (g1 : mg "can_spill" = some (.ref f1))
    (m2 : Meth K CS "counts" f2) (G2 : FnOk P w K mg base CX0 1 f2 fd2 ["self"] (spCounts CS C)) (b2 : Binds K fd2 ["self"] [])
    (m3 : Meth K CS "net" f3) (G3 : FnOk P w K mg base CX0 1 f3 fd3 ["self"] (spSNet CS C)) (b3 : Binds K fd3 ["self"] [])
    (m4 : Meth K CS "pours" f4) (G4 : FnOk P w K mg base CX0 1 f4 fd4 ["self"] (spPours CS C)) (b4 : Binds K fd4 ["self"] [])
    (MS : Mk K CS fSI) (GSI : FnOk P w K mg base CX0 5 fSI fdSI ["self", "net", "poured", "counts"] (spSInit CS C)) (bSI : Binds K fdSI ["self", "net", "poured", "counts"] dsS) (vSI : Vals [] dsS) :
    FnOk P w K mg base CX0 9 f fd ["stand", "name", "times"] (spSpilled CS C) := by
  refine F.ok scSpilled (fun vs H Q E h => ?_) (fun cdv A outer s H vs Q E hr h => ?_)
  · obtain ⟨s, B, Pp, Qp, Qc, z, t, rfl, _⟩ := h
    rfl
  · obtain ⟨s, B, Pp, Qp, Qc, z, t, rfl, S, good, mz, t1, tm, q⟩ := h
    obtain ⟨B', P', Qp', Qc', SA, g', pB, pP, so, fp, fc, v1, v2, nn⟩ := id S
    obtain ⟨dx, n, d1, d2, hs, N, h1, h2⟩ := SA.at_
    have pm : (nms B').Perm (nms B) := pB.map Prod.fst
    have hr1 := hr.mono (show 1 ≤ 8 by decide)
    refine ⟨_, PSs.nox (pss_cons (ps_if (pt_not (pt_val (pe_call G1 hr (by rfl) g1 k1 b1 .nil pass0 (pa_cons (pv 0) (pa_cons (pv 1) (pa_cons (pv 2) pa_nil)))))) (pss_one ps_never) pss_nil)
      (pss_cons (ps_set (i := 3) scSpilled.nd rfl (by first | exact .inl rfl | exact .inr rfl) (pe_meth0 (pv 0) TS.cl m2 G2 hr1 b2 .nil pass0))
      (pss_cons (ps_daug (hu_of hr) (pv 3) (pv 1) (pv 2) in_add (fun _ _ _ => rfl))
      (pss_one (ps_ret (pe_make MS GSI (hr.mono (by decide)) (by rfl) TS.mgC bSI vSI pass0 (pa_cons (pe_meth0 (pv 0) TS.cl m3 G3 hr1 b3 .nil pass0) (pa_cons (pe_meth0 (pv 0) TS.cl m4 G4 hr1 b4 .nil pass0) (pa_cons (pv 3) pa_nil))))))))), ?_⟩
    refine ⟨.ref s, rfl, .str z, rfl, .int t, rfl, s, B, Pp, Qp, Qc, z, t, rfl, S, good, mz, t1, fun H1 s1 => ?_⟩
    rw [decide_eq_true tm]
    refine ⟨true, rfl, iteF ?_⟩
    have lF : ∀ {Qd : Br}, Full B' Qd → (nms Qd).Nodup ∧ Qd.length ≤ 12 := fun {Qd} f => by
      refine ⟨by rw [f.nm]; exact g'.wf.nb, ?_⟩
      have : (nms Qd).length = (nms B').length := by rw [f.nm]
      rw [nms_len, nms_len] at this
      have := g'.wf.lb
      omega
    obtain ⟨ndC, lC⟩ := lF fc
    obtain ⟨ndP, lP⟩ := lF fp
    have mzC : z ∈ nms Qc' := by rw [fc.nm]; exact pm.mem_iff.mpr mz
    refine ⟨.ref s, rfl, s, dx, _, rfl, s1 s _ hs, sf_no, s, B', P', Qp', Qc', rfl, SA.same s1, ndC, lC, fun H2 cd s2 ncd hcd => ?_⟩
    refine ⟨.ref cd, rfl, .str z, rfl, cd, .int (val0 Qc' z), rfl, .inl ⟨_, Sum.inr z, .inl hcd, rfl, by rw [valV_bk, fc.get (pm.mem_iff.mpr mz)]; rfl⟩, .int t, rfl, _, _, rfl, rfl, _, DPut.k (k := Sum.inr z) hcd (by rw [bk_len]; exact small1000 (by omega)), ?_⟩
    rw [putK_putB]
    obtain ⟨Q2, hQ2⟩ : ∃ Q2, Q2 = putB Qc' z (val0 Qc' z + t) := ⟨_, rfl⟩
    rw [← hQ2]
    have ncdH : H cd = none := s1.free ncd
    have s3 : Same H (upd H2 cd (.dK (bk Q2))) := fun x o e => by
      rw [upd_ne (ne_of_none e ncdH)]; exact s2 x o (s1 x o e)
    have hcd3 : (upd H2 cd (.dK (bk Q2))) cd = some (.dK (bk Q2)) := upd_same
    obtain ⟨H3, hH3⟩ : ∃ H3, H3 = upd H2 cd (.dK (bk Q2)) := ⟨_, rfl⟩
    rw [← hH3] at s3 hcd3 ⊢
    refine ⟨.ref s, rfl, s, dx, _, rfl, s3 s _ hs, sf_no, s, B', P', Qp', Qc', rfl, SA.same s3, fun n' N' W' => ?_⟩
    refine ⟨.ref s, rfl, s, dx, _, rfl, s3 s _ hs, sf_no, s, B', P', Qp', Qc', rfl, SA.same s3, ndP, lP, fun H4 pd s4 npd hpd => ?_⟩
    refine ⟨.ref cd, rfl, fun x dx2 nx ndx nex => ?_⟩
    have s5 : Same H4 (upd (upd H4 dx2 (.own x)) x (.ins CS dx2 [])) := fun y o e => by
      rw [upd_ne (ne_of_none e nx), upd_ne (ne_of_none e ndx)]; exact e
    have n2 : nms Q2 = nms B' := by rw [hQ2, putB_nms, if_pos mzC, fc.nm]
    have vv : ∀ y, val0 Q2 y = if y = z then val0 Qc' z + t else val0 Qc' y := fun y => by rw [hQ2, putB_val]
    have nd2 : (nms Q2).Nodup := by rw [n2]; exact g'.wf.nb
    have l2 : Q2.length ≤ 200 := by
      have := (lF ⟨n2⟩).2
      omega
    refine ⟨x, dx2, n', .ref pd, .ref cd, B', P', Qp', Q2, rfl, upd_same, (N'.same s4).same s5, g', ⟨.inr ⟨pd, rfl, s5 pd _ hpd⟩, ndP, by omega, fun y hy => ?_⟩, ⟨.inr ⟨cd, rfl, s5 cd _ (s4 cd _ hcd3)⟩, nd2, l2, fun y hy => ?_⟩, fun H5 SA5 W5 kp5 => ⟨rfl, ?_⟩⟩
    · have my : y.1 ∈ nms B' := by rw [← fp.nm]; exact List.mem_map.mpr ⟨y, hy, rfl⟩
      refine ⟨my, ?_⟩
      have my' := pm.mem_iff.mp my
      have := (nn y.1 my').1
      rw [← v1 y.1 my', val0_of_mem ndP (show (y.1, y.2) ∈ Qp' from hy)] at this
      exact this
    · have my : y.1 ∈ nms B' := by rw [← n2]; exact List.mem_map.mpr ⟨y, hy, rfl⟩
      refine ⟨my, ?_⟩
      have my' := pm.mem_iff.mp my
      have e := vv y.1
      rw [val0_of_mem nd2 (show (y.1, y.2) ∈ Q2 from hy)] at e
      have h3 := (nn y.1 my').2
      rw [← v2 y.1 my'] at h3
      have h4 := (nn z mz).2
      rw [← v2 z mz] at h4
      split at e <;> omega
    · have s05 : Same H H5 := fun y o e => kp5 y o (s5 y o (s4 y o (s3 y o e))) (ne_of_none (s4 y o (s3 y o e)) nx)
      have nxH : H x = none := s3.free (s4.free nx)
      refine q H5 x s05 nxH (fun Qc2 h2 => ?_) (fun a0 oA hA0 => ?_)
      rotate_left
      · obtain ⟨dx5, f1, f2, w5, u1, u2⟩ := W5
        obtain ⟨dxA, nA, g1, g2, dxn, e1, e2, oA1, oA2, oA3, oA4, oA5⟩ := oA
        obtain ⟨dxB, k1, k2, oB⟩ := W'
        have en : nA = n' := by
          have e := s3 s _ oA1
          rw [oB] at e
          injection e with e
          injection e with _ _ e
          exact (sf_inj e).1.symm
        subst en
        have nA5 : H5 nA = some (.ins C dxn (nf e1 e2)) := s05 nA _ oA2
        have old : ∀ {d : Addr}, (upd (upd H4 dx2 (.own x)) x (.ins CS dx2 [])) d = none → a0 ≠ d := fun {d} ed e => by
          subst e
          cases ha : H a0 with
          | none => exact hA0 ha
          | some o => rw [s5 a0 o (s4 a0 o (s3 a0 o ha))] at ed; cases ed
        exact ⟨dx5, nA, f1, f2, dxn, e1, e2, w5, nA5, old u1, old u2, oA5⟩
      refine stOf_next (Qp' := Qp') (Qc' := Qc') (Qc := Qc) (z := z) (t := t) SA5 g' pB pP so v1 v2 nn (by omega) (fun y _ => rfl) (fun y _ => ?_) h2
      rw [vv y]
      by_cases e : y = z
      · rw [if_pos e, if_pos e, e]
      · rw [if_neg e, if_neg e]; omega
end
end Nl
end
section
set_option maxHeartbeats 1000000
namespace Nl
open PySem PySem.Spec PyProof.Rows L2 Nt
section
variable {P : Program} {w : World} {K : PySem.W.Frag} {mg : Str → Option Value} {base : Heap}
theorem scWaters : FnScope ["self", "name"] ["self"] (defScope mStand_waters) := ⟨rfl, rfl, rfl, by decide +kernel, rfl, by decide +kernel, by decide +kernel⟩
def spWaters (CS C : Addr) : Sp := fun vs H Q _ => ∃ (s : Addr) (B : Br) (Pp : Pi) (Qp Qc : Br), vs = [.ref s] ∧ StandAt CS C H s B Pp Qp Qc ∧ Good B Pp ∧ Full B Qp ∧ Full B Qc ∧ ∀ H' p, Same H H' → H p = none → H' p = some (.dK (bk (mapN (nms B) (waterOf B Pp Qp Qc)))) → Q (.ref p) H'
theorem ok_waters {f CS C f1 f2 : Addr} {fd fd1 fd2 : FuncData} (F : Fun K "waters" "Stand.waters" mStand_waters f fd) (T : TxS K mg CS) (TN : TxN K mg C)
    (m1 : Meth K C "ponds" f1) (G1 : FnOk P w K mg base CX0 1 f1 fd1 ["self"] (spPonds C)) (b1 : Binds K fd1 ["self"] [])
    (m2 : Meth K CS "water" f2) (G2 : FnOk P w K mg base CX0 6 f2 fd2 ["self", "name"] (spWater CS C)) (b2 : Binds K fd2 ["self", "name"] []) :
    FnOk P w K mg base CX0 7 f fd ["self"] (spWaters CS C) := by
  refine F.ok scWaters (fun vs H Q E h => ?_) (fun cdv A outer s H vs Q E hr h => ?_)
  · obtain ⟨s, B, Pp, Qp, Qc, rfl, _⟩ := h
    rfl
  · obtain ⟨s, B, Pp, Qp, Qc, rfl, S, good, fp, fc, q⟩ := h
    obtain ⟨dx, n, d1, d2, hs, N, h1, h2⟩ := S.at_
    have wf := good.wf
    have lN : (nms B).length ≤ 12 := by rw [nms_len]; exact wf.lb
    refine ⟨_, pss_one (ps_ret (Rl.pe_dcP (T := .dK []) (own := [("name", 1)]) (g := gName 1) (tt := tYes) (.inr rfl) hr rfl scWaters.nd (pi_list (pe_meth0 (pe_fld (pv 0) rfl) TN.cl m1 G1 (hr.mono (by decide)) b1 .nil pass0))
        (blkOk_by (N := ["self", "name"]) (sc := defScope mStand_waters) (by decide +kernel)) (fun _ _ _ _ _ => pg_name (i := 1) scWaters.nd rfl (Or.inl rfl)) (fun _ _ _ _ _ => pts_nil) (fun _ _ _ _ _ => pv 1)
        (fun _ _ _ _ _ => pe_meth (pv 0) T.cl m2 G2 hr b2 .nil pass0 (pa_cons (pv 1) pa_nil)))), ?_⟩
    obtain ⟨dxn, e1, e2, hn, _, _⟩ := N.at_
    refine ⟨.ref s, rfl, s, CS, dx, _, _, rfl, hs, T.cl, T.nN, sf_n n d1 d2, n, dxn, _, rfl, hn, no_attr, n, B, Pp, rfl, N, fun e ne => ?_⟩
    refine ⟨e, rfl, ⟨_, SqL.of upd_same⟩, fun D nD => ?_⟩
    refine ponds_dc (K := K) (f := waterOf B Pp Qp Qc) (fun H => H s = some (.ins CS dx (sf n d1 d2)) ∧ StandAt CS C H s B Pp Qp Qc) (fun sm h => ⟨sm _ _ h.1, h.2.same sm⟩) wf.nb lN upd_same ⟨same_new ne s _ hs, S.same (same_new ne)⟩ nD (fun z => rfl) (fun z => rfl) (fun z H2 R mz _ g h => ?_) (fun H2 hD sm => ?_)
    · exact ⟨.ref s, rfl, s, dx, _, rfl, g.1, sf_no, .str z, rfl, s, B, Pp, Qp, Qc, z, rfl, g.2, good, fp, fc, mz, h⟩
    · exact q H2 D ((same_new ne).trans sm) ((same_new ne).free nD) hD
end
end Nl
end
section
set_option maxHeartbeats 2000000
namespace Nl
open PySem PySem.Spec PyProof.Rows L2 Nt
section
variable {P : Program} {w : World} {K : PySem.W.Frag} {mg : Str → Option Value} {base : Heap}
theorem scSome : FnScope ["_law_pot_here", "_law_wide", "_law_far", "_law_found", "_law_one", "_law_way"] ["_law_pot_here", "_law_wide", "_law_far"] (defScope sSome) := ⟨rfl, rfl, rfl, by decide +kernel, rfl, by decide +kernel, by decide +kernel⟩
def spSome : Sp := fun vs H Q _ => ∃ (p a : Addr) (far : Int) (B : Br), vs = [.ref p, .ref a, .int far] ∧ PotAt H p ∧ H a = some (.dK (bk B)) ∧ B.length ≤ 12 ∧ (nms B).Nodup ∧ 0 < far ∧ far < 2 ^ 200 ∧
  ∀ (r : Addr) (Qd : Br) (H' : Hp), Kp p H H' → PotAt H' p → H r = none → H' r = some (.dK (bk Qd)) → (nms Qd).Nodup → (∀ x ∈ Qd, x.1 ∈ nms B ∧ 0 ≤ x.2 ∧ (x.2 < 400 ∨ x.2 < far)) → Q (.ref r) H'
theorem ok_some {f fD : Addr} {fd fdD : FuncData} (F : Fun K "_law_some" "_law_some" sSome f fd) (FD : Fun K "_law_draw" "_law_draw" sDraw fD fdD) (GD : FnOk P w K mg base CX0 1 fD fdD ["_law_pot_here", "_law_many"] spDraw) (bD : Binds K fdD ["_law_pot_here", "_law_many"] [])
    (gD : mg "_law_draw" = some (.ref fD)) (mso : mg "sorted" = none) : FnOk P w K mg base CX0 2 f fd ["_law_pot_here", "_law_wide", "_law_far"] spSome := by
  refine F.ok scSome (fun vs H Q E h => ?_) (fun cdv A outer s H vs Q E hr h => ?_)
  · obtain ⟨p, a, far, B, rfl, _⟩ := h
    rfl
  · obtain ⟨p, a, far, B, rfl, hP, hA, lB, ndB, far0, far1, q⟩ := h
    refine ⟨_, pss_cons (ps_set (i := 3) scSome.nd rfl (by first | exact .inl rfl | exact .inr rfl) pe_dnewK)
      (pss_cons (ps_for PassesOwn.never rfl (pi_list (pe_callB (call_sortedD rfl) (by rfl) mso (by decide +kernel) (pa_cons (pv 1) pa_nil))) (pg_name (i := 4) scSome.nd rfl (Or.inl rfl))
        (pss_cons (ps_set (i := 5) scSome.nd rfl (by first | exact .inl rfl | exact .inr rfl) (pe_call GD hr (by rfl) gD FD.kp bD .nil pass0 (pa_cons (pv 0) (pa_cons pe_int pa_nil))))
        (pss_one (ps_if (pt_cmpR op_gt (pv 5) pe_int (nomark _))
          (pss_one (ps_dput (hu_of hr) (pv 3) (pv 4) (pe_call GD hr (by rfl) gD FD.kp bD .nil pass0 (pa_cons (pv 0) (pa_cons (pe_ix ix_list (pe_lst (pa_cons pe_int (pa_cons pe_int (pa_cons pe_int (pa_cons pe_int (pa_cons (pv 2) pa_nil)))))) (pv 5) (fun _ _ => rfl)) pa_nil))) rfl)) pss_nil))))
      (pss_one (ps_ret (pv 3)))), ?_⟩
    refine fun D nD => ?_
    have hDp := hP.ne nD
    have s0 : Same H (upd H D (.dK [])) := same_new nD
    refine ⟨.ref a, rfl, a, bk B, nms B, rfl, .inl (s0 a _ hA), ?_, ?_, fun M r pm so nr => ?_⟩
    · unfold bk nms
      rw [List.map_map, List.map_map]; rfl
    · rw [nms_len]; omega
    have hP1 : PotAt (upd (upd H D (.dK [])) r (.lst (M.map V.str))) p := (hP.new nD).new nr
    have hrp : r ≠ p := (hP.new nD).ne nr
    have hDr : D ≠ r := ne_of_none upd_same nr
    have ndM : M.Nodup := pm.nodup_iff.mpr ndB
    have lM : M.length ≤ 12 := by rw [pm.length_eq, nms_len]; exact lB
    refine ⟨r, rfl, ⟨_, SqL.of upd_same⟩, ?_⟩
    refine for_it (walk_list (xs := M.map V.str)) (fun i σ H2 => ∃ (Qd : Br) (y4 y5 : Option V), σ = [some (.ref p), some (.ref a), some (.int far), some (.ref D), y4, y5] ∧ H2 D = some (.dK (bk Qd)) ∧ H2 r = some (.lst (M.map V.str)) ∧ Kp p H H2 ∧ PotAt H2 p ∧ (nms Qd).Nodup ∧ ∀ x ∈ Qd, x.1 ∈ M.take i ∧ 0 ≤ x.2 ∧ (x.2 < 400 ∨ x.2 < far))
      ⟨[], none, none, rfl, by rw [upd_ne hDr]; exact upd_same, upd_same, (Kp.new nD).trans (Kp.new nr), hP1, List.nodup_nil, fun x hx => absurd hx List.not_mem_nil⟩ (fun i σ H2 _ ⟨_, _, _, _, _, h, _⟩ => SqL.of h) ?_ ?_
    · rintro i x σ H2 H2' hi ⟨Qd, y4, y5, rfl, hD2, hr2, kp, hP2, ndQ, okQ⟩ ⟨rfl, hx⟩
      rw [List.getElem?_map] at hx
      cases hy : M[i]? with
      | none => rw [hy] at hx; cases hx
      | some z =>
        rw [hy] at hx
        have hx' : V.str z = x := Option.some.inj hx
        subst hx'
        have tk : M.take (i + 1) = M.take i ++ [z] := by rw [List.take_add_one, hy]; rfl
        have fr : z ∉ nms Qd := fun hz => by
          obtain ⟨v, hv, e⟩ := List.mem_map.mp hz
          have := (okQ v hv).1
          rw [show v.1 = z from e] at this
          exact take_nd ndM hy this
        have up : ∀ x ∈ Qd, x.1 ∈ M.take (i + 1) ∧ 0 ≤ x.2 ∧ (x.2 < 400 ∨ x.2 < far) := fun x hx => ⟨by rw [tk]; exact List.mem_append_left _ (okQ x hx).1, (okQ x hx).2⟩
        refine ⟨.ref p, rfl, p, 5, rfl, hP2, by decide, by decide, fun d H3 k3 hP3 d0 d1 => ?_⟩
        refine ⟨.int d, rfl, d, 0, rfl, rfl, _, rfl, ite2 (fun c => ?_) (fun c => ?_)⟩
        · have c0 : 0 < d := of_decide_eq_true c
          refine ⟨.ref p, rfl, .int far, rfl, line1000 (by show 5 ≤ 1000; decide), fun l nl => ?_⟩
          have hm : ∃ m : Int, atI [V.int 1, V.int 8, V.int 70, V.int 400, V.int far] d = some (.int m) ∧ 0 < m ∧ m < 2 ^ 200 ∧ (m ≤ 400 ∨ m = far) := by
            have : d = 1 ∨ d = 2 ∨ d = 3 ∨ d = 4 := by omega
            rcases this with rfl | rfl | rfl | rfl
            · exact ⟨8, atI_nat (j := 1) rfl, by decide, by decide, .inl (by decide)⟩
            · exact ⟨70, atI_nat (j := 2) rfl, by decide, by decide, .inl (by decide)⟩
            · exact ⟨400, atI_nat (j := 3) rfl, by decide, by decide, .inl (by decide)⟩
            · exact ⟨far, atI_nat (j := 4) rfl, far0, far1, .inr rfl⟩
          obtain ⟨m, hm, m0, m1, m2⟩ := hm
          refine ⟨.int d, rfl, l, _, d, .int m, rfl, rfl, SqL.of upd_same, hm, p, m, rfl, hP3.new nl, m0, m1, fun v H4 k4 hP4 v0 v1 => ?_⟩
          have hD4 := k4 D _ hDp (same_new nl D _ (k3 D _ hDp hD2))
          have lQ : Qd.length ≤ 12 := by
            have h1 := len_le_of_sub ndQ (m := M) (fun x hx => by
              obtain ⟨v, hv, e⟩ := List.mem_map.mp hx
              rw [← e]
              exact List.mem_of_mem_take (okQ v hv).1)
            rw [nms_len] at h1
            omega
          refine ⟨.ref D, rfl, .str z, rfl, D, _, rfl, DPut.k (k := Sum.inr z) hD4 (by rw [bk_len]; exact small1000 (by omega)), Qd ++ [(z, v)], some (.str z), some (.int d), rfl, ?_, ?_, ?_, ?_, ?_, ?_⟩
          · rw [upd_same, putK_bk fr]
          · rw [upd_ne (Ne.symm hDr)]; exact k4 r _ hrp (same_new nl r _ (k3 r _ hrp hr2))
          · intro b o nb e
            have nb1 : b ≠ D := ne_of_none e nD
            rw [upd_ne nb1]; exact k4 b o nb (same_new nl b _ (k3 b o nb (kp b o nb e)))
          · exact hP4.put hDp
          · rw [nms_append]
            refine List.nodup_append.mpr ⟨ndQ, List.nodup_cons.mpr ⟨List.not_mem_nil, .nil⟩, fun u mu t mt => ?_⟩
            have et : t = z := by simpa [nms] using mt
            exact fun e => fr (by rw [← et, ← e]; exact mu)
          · intro x hx
            rcases List.mem_append.mp hx with h | h
            · exact up x h
            · have : x = (z, v) := by simpa using h
              subst this
              refine ⟨by rw [tk]; exact List.mem_append_right _ (List.mem_singleton.mpr rfl), v0, ?_⟩
              show v < 400 ∨ v < far
              rcases m2 with h | h <;> omega
        · exact ⟨Qd, some (.str z), some (.int d), rfl, k3 D _ hDp hD2, k3 r _ hrp hr2, kp.trans k3, hP3, ndQ, up⟩
    · rintro σ H2 ⟨Qd, y4, y5, rfl, hD2, hr2, kp, hP2, ndQ, okQ⟩
      refine ⟨.ref D, rfl, q D Qd H2 kp hP2 nD hD2 ndQ fun x hx => ⟨?_, (okQ x hx).2⟩⟩
      exact pm.mem_iff.mp (List.mem_of_mem_take (okQ x hx).1)
end
end Nl
end
section
set_option maxHeartbeats 2000000
namespace Nl
open PySem PySem.Spec PyProof.Rows L2 Nt
section
variable {P : Program} {w : World} {K : PySem.W.Frag} {mg : Str → Option Value} {base : Heap}
theorem scRoom : FnScope ["_law_wide", "_law_joins", "_law_one", "_law_other", "_law_out", "_law_come", "_law_two"] ["_law_wide", "_law_joins", "_law_one", "_law_other"] (defScope sRoom) := ⟨rfl, rfl, rfl, by decide +kernel, rfl, by decide +kernel, by decide +kernel⟩
def spRoom : Sp := fun vs H Q _ => ∃ (a b : Addr) (B : Br) (Pp : Pi) (x y : Str) (c d : Int), vs = [.ref a, .ref b, .str x, .str y] ∧ H a = some (.dK (bk B)) ∧ H b = some (.dT (pt Pp)) ∧ (Pp.map Prod.fst).Nodup ∧ Pp.length ≤ 200 ∧ getB B x = some c ∧ getB B y = some d ∧
  ∀ H', Same H H' → Q (.int (if d - inW Pp y < c - outW Pp x then d - inW Pp y else c - outW Pp x)) H'
theorem ok_room {f : Addr} {fd : FuncData} {k : Nat} (F : Fun K "_law_room" "_law_room" sRoom f fd) (ms : mg "sum" = none) (mm : mg "min" = none) : FnOk P w K mg base CX0 (k + 1) f fd ["_law_wide", "_law_joins", "_law_one", "_law_other"] spRoom := by
  refine F.ok scRoom (fun vs H Q E h => ?_) (fun cdv A outer s H vs Q E hr h => ?_)
  · obtain ⟨a, b, B, Pp, x, y, c, d, rfl, _⟩ := h
    rfl
  · obtain ⟨a, b, B, Pp, x, y, c, d, rfl, hA, hB, nd, lp, gx, gy, q⟩ := h
    have hu := hu_of hr
    refine ⟨_, pss_cons (ps_set (i := 4) scRoom.nd rfl (.inl rfl) (pe_callB (cr_sum rfl) (by rfl) ms (by decide +kernel) (pa_cons (pe_lock (pe_lc (own := [("_law_two", 6)]) (g := gName 6) (tt := tTest (tOp rEq (tOp (rIxT K) (tVar 6) (tC (.int 0))) (tVar 2))) rfl scRoom.nd (pi_keys (pv 1))
        (blkOk_by (N := ["_law_wide", "_law_joins", "_law_one", "_law_other", "_law_out", "_law_come", "_law_two"]) (sc := defScope sRoom) (by decide +kernel)) (fun _ _ _ _ _ => pg_name (i := 6) scRoom.nd rfl (Or.inl rfl))
        (fun _ _ _ _ _ => pts_one (pt_cmpR op_eq (pe_ix ix_tup (pv 6) pe_int (fun _ _ => rfl)) (pv 2) (nomark _))) (fun _ _ _ _ _ => pe_dget hu (pv 1) (pv 6) (fun _ _ => rfl)))) pa_nil)))
      (pss_cons (ps_set (i := 5) scRoom.nd rfl (.inl rfl) (pe_callB (cr_sum rfl) (by rfl) ms (by decide +kernel) (pa_cons (pe_lock (pe_lc (own := [("_law_two", 6)]) (g := gName 6) (tt := tTest (tOp rEq (tOp (rIxT K) (tVar 6) (tC (.int 1))) (tVar 3))) rfl scRoom.nd (pi_keys (pv 1))
        (blkOk_by (N := ["_law_wide", "_law_joins", "_law_one", "_law_other", "_law_out", "_law_come", "_law_two"]) (sc := defScope sRoom) (by decide +kernel)) (fun _ _ _ _ _ => pg_name (i := 6) scRoom.nd rfl (Or.inl rfl))
        (fun _ _ _ _ _ => pts_one (pt_cmpR op_eq (pe_ix ix_tup (pv 6) pe_int (fun _ _ => rfl)) (pv 3) (nomark _))) (fun _ _ _ _ _ => pe_dget hu (pv 1) (pv 6) (fun _ _ => rfl)))) pa_nil)))
      (pss_one (ps_ret (pe_callB (call_min2 rfl) (by rfl) mm (by decide +kernel) (pa_cons (pe_op op_sub (pe_dget hu (pv 0) (pv 2) (fun _ _ => rfl)) (pv 4)) (pa_cons (pe_op op_sub (pe_dget hu (pv 0) (pv 3) (fun _ _ => rfl)) (pv 5)) pa_nil)))))), ?_⟩
    refine pick_ok (K := K) (jp := 1) (jv := 6) (jn := 2) (c := 0) (z := x) (fun p => p.1.1) (fun p => .int p.2) at0 lp hB rfl (fun _ => rfl) (fun _ => rfl) (fun _ => rfl) (fun p q od H2 R hm sm hq r => width_at nd hm sm hq rfl rfl r) fun D H1 s1 nD hD => ?_
    refine ⟨D, (Pp.filter fun p => decide (p.1.1 = x)).map (·.2), rfl, SqL.of (by rw [hD, List.map_map]; rfl), ?_⟩
    refine pick_ok (K := K) (jp := 1) (jv := 6) (jn := 3) (c := 1) (z := y) (fun p => p.1.2) (fun p => .int p.2) at1 lp (s1 b _ hB) rfl (fun _ => rfl) (fun _ => rfl) (fun _ => rfl) (fun p q od H2 R hm sm hq r => width_at nd hm sm hq rfl rfl r) fun D2 H2 s2 nD2 hD2 => ?_
    refine ⟨D2, (Pp.filter fun p => decide (p.1.2 = y)).map (·.2), rfl, SqL.of (by rw [hD2, List.map_map]; rfl), ?_⟩
    have sA := s1.trans s2
    refine get_bk (.inl (sA a _ hA)) gx rfl rfl ⟨_, rfl, c, outW Pp x, rfl, rfl, ?_⟩
    refine get_bk (.inl (sA a _ hA)) gy rfl rfl ⟨_, rfl, d, inW Pp y, rfl, rfl, ?_⟩
    exact ⟨_, _, rfl, q H2 sA⟩
end
end Nl
end
section
set_option maxHeartbeats 2000000
namespace Nl
open PySem PySem.Spec PyProof.Rows L2 Nt
section
variable {P : Program} {w : World} {K : PySem.W.Frag} {mg : Str → Option Value} {base : Heap}
theorem scClosed : FnScope ["_law_wide", "_law_joins", "_law_left", "_law_turn", "_law_one", "_law_two"] ["_law_wide", "_law_joins"] (defScope sClosed) := ⟨rfl, rfl, rfl, by decide +kernel, rfl, by decide +kernel, by decide +kernel⟩
def spClosed : Sp := fun vs H Q _ => ∃ (a b : Addr) (B : Br) (Pp : Pi), vs = [.ref a, .ref b] ∧ H a = some (.dK (bk B)) ∧ H b = some (.dT (pt Pp)) ∧ Wf Nm B Pp ∧ Fit B Pp ∧
  ∀ (r : Addr) (L : List Str) (H' : Hp), Same H H' → H r = none → H' r = some (.lst (L.map V.str)) → L.Nodup → (∀ x, x ∈ L ↔ x ∈ nms B ∧ ¬ Opn B Pp x) → Q (.ref r) H'
theorem ok_closed {f : Addr} {fd : FuncData} {k : Nat} (F : Fun K "_law_closed" "_law_closed" sClosed f fd) (ms : mg "sum" = none) (mso : mg "sorted" = none) (mr : mg "range" = none) (mn : mg "len" = none) (ma : mg "all" = none) : FnOk P w K mg base CX0 (k + 1) f fd ["_law_wide", "_law_joins"] spClosed := by
  refine F.ok scClosed (fun vs H Q E h => ?_) (fun cdv A outer s H vs Q E hr h => ?_)
  · obtain ⟨a, b, B, Pp, rfl, _⟩ := h
    rfl
  · obtain ⟨a, b, B, Pp, rfl, hA, hB, wf, fit, q⟩ := h
    have hu := hu_of hr
    refine ⟨_, pss_cons (ps_set (i := 2) scClosed.nd rfl (by first | exact .inl rfl | exact .inr rfl) (pe_lc (own := [("_law_one", 4)]) (g := gName 4)
        (tt := tTest (tOp rEq (tDGet (tVar 0) (tVar 4)) (tCB (rSum K) (tCons (tPick K 1 5 4 0 (tDGet (tVar 1) (tVar 5))) tNil)))) (te := tVar 4) rfl scClosed.nd
        (pi_list (pe_callB (call_sortedD rfl) (by rfl) mso (by decide +kernel) (pa_cons (pv 0) pa_nil)))
        (blkOk_by (N := ["_law_wide", "_law_joins", "_law_left", "_law_turn", "_law_one", "_law_two"]) (sc := defScope sClosed) (by decide +kernel)) (fun _ _ _ _ _ => pg_name (i := 4) scClosed.nd rfl (Or.inr rfl))
        (fun _ _ _ _ _ => pts_one (pt_cmpR op_eq (pe_dget hu (pv 0) (pv 4) (fun _ _ => rfl)) (pe_callB (cr_sum rfl) (by rfl) ms (by decide +kernel) (pa_cons (pe_lock (pe_lc (own := [("_law_two", 5)]) (g := gName 5)
          (tt := tTest (tOp rEq (tOp (rIxT K) (tVar 5) (tC (.int 0))) (tVar 4))) (te := tDGet (tVar 1) (tVar 5)) rfl scClosed.nd (pi_keys (pv 1))
          (blkOk_by (N := ["_law_wide", "_law_joins", "_law_left", "_law_turn", "_law_one", "_law_two"]) (sc := { kind := .function, names := [(".0", .local), ("_law_one", .cell), ("sum", .globalImplicit), ("_law_joins", .cell), ("_law_wide", .cell)], isGenerator := false, isCoroutine := false }) (by decide +kernel))
          (fun _ _ _ _ _ => pg_name (i := 5) scClosed.nd rfl (Or.inl rfl)) (fun _ _ _ _ _ => pts_one (pt_cmpR op_eq (pe_ix ix_tup (pv 5) pe_int (fun _ _ => rfl)) (pv 4) (nomark _))) (fun _ _ _ _ _ => pe_dget hu (pv 1) (pv 5) (fun _ _ => rfl)))) pa_nil)) (nomark _)))
        (fun _ _ _ _ _ => pv 4)))
      (pss_cons (ps_for PassesOwn.never rfl (pi_range1 (by rfl) mr (pa_cons (pe_callB call_lenD (by rfl) mn PySem.boot_len (pa_cons (pv 0) pa_nil)) pa_nil)) (pg_name (i := 3) scClosed.nd rfl (Or.inl rfl))
        (pss_one (ps_set (i := 2) scClosed.nd rfl (by first | exact .inl rfl | exact .inr rfl) (pe_lc (own := [("_law_one", 4)]) (g := gName 4)
          (tt := tB (tCB (rAll K) (tCons (tPick K 1 5 4 0 (tOp (rIn K false) (tOp (rIxT K) (tVar 5) (tC (.int 1))) (tVar 2))) tNil))) (te := tVar 4) rfl scClosed.nd (pi_list (pv 2))
          (blkOk_by (N := ["_law_wide", "_law_joins", "_law_left", "_law_turn", "_law_one", "_law_two"]) (sc := defScope sClosed) (by decide +kernel)) (fun _ _ _ _ _ => pg_name (i := 4) scClosed.nd rfl (Or.inr rfl))
          (fun _ _ _ _ _ => pts_one (pt_val (pe_callB (cr_all rfl) (by rfl) ma (by decide +kernel) (pa_cons (pe_lock (pe_lc (own := [("_law_two", 5)]) (g := gName 5)
            (tt := tTest (tOp rEq (tOp (rIxT K) (tVar 5) (tC (.int 0))) (tVar 4))) (te := tOp (rIn K false) (tOp (rIxT K) (tVar 5) (tC (.int 1))) (tVar 2)) rfl scClosed.nd (pi_keys (pv 1))
            (blkOk_by (N := ["_law_wide", "_law_joins", "_law_left", "_law_turn", "_law_one", "_law_two"]) (sc := { kind := .function, names := [(".0", .local), ("_law_one", .cell), ("all", .globalImplicit), ("_law_joins", .cell), ("_law_left", .cell)], isGenerator := false, isCoroutine := false }) (by decide +kernel))
            (fun _ _ _ _ _ => pg_name (i := 5) scClosed.nd rfl (Or.inl rfl)) (fun _ _ _ _ _ => pts_one (pt_cmpR op_eq (pe_ix ix_tup (pv 5) pe_int (fun _ _ => rfl)) (pv 4) (nomark _)))
            (fun _ _ _ _ _ => pe_cmpR op_in_seq (pe_ix ix_tup (pv 5) pe_int (fun _ _ => rfl)) (pv 2) (by rfl)))) pa_nil))))
          (fun _ _ _ _ _ => pv 4)))))
      (pss_one (ps_ret (pv 2)))), ?_⟩
    have lB : B.length ≤ 12 := wf.lb
    refine ⟨.ref a, rfl, a, bk B, nms B, rfl, .inl hA, ?_, ?_, fun ys e0 pm _ ne0 => ?_⟩
    · unfold bk nms
      rw [List.map_map, List.map_map]; rfl
    · rw [nms_len]; omega
    have s0 : Same H (upd H e0 (.lst (ys.map V.str))) := same_new ne0
    have lY : ys.length = B.length := by rw [pm.length_eq, nms_len]
    refine ⟨e0, rfl, ⟨_, SqL.of upd_same⟩, fun D nD => ?_⟩
    refine keep_lc (K := K) (b := fun z => decide (val0 B z = outW Pp z)) (by omega) upd_same nD (fun _ => rfl) (fun _ => rfl) (fun z H2 R mz sm r => ?_) (fun H2 hD sm => ?_)
    · have sA := s0.trans sm
      obtain ⟨c, gz⟩ := getB_some (pm.mem_iff.mp mz)
      refine get_bk (.inl (sA a _ hA)) gz rfl rfl ?_
      refine pick_ok (K := K) (jp := 1) (jv := 5) (jn := 4) (c := 0) (z := z) (fun p => p.1.1) (fun p => .int p.2) at0 wf.lp (sA b _ hB) rfl (fun _ => rfl) (fun _ => rfl) (fun _ => rfl) (fun p q od H2 R hm sm hq r => width_at wf.np hm sm hq rfl rfl r) fun D3 H3 s3 nD3 hD3 => ?_
      refine ⟨D3, (Pp.filter fun p => decide (p.1.1 = z)).map (·.2), rfl, SqL.of (by rw [hD3, List.map_map]; rfl), rfl, _, rfl, ?_⟩
      have := r H3 s3
      rw [show val0 B z = c by unfold val0; rw [gz]; rfl] at this
      have e : decide (V.int c = V.int (outW Pp z)) = decide (c = outW Pp z) := by
        by_cases h : c = outW Pp z
        · rw [h]; simp
        · rw [decide_eq_false h, decide_eq_false (fun z => h (by injection z))]
      rw [← e] at this
      exact this
    have sB := s0.trans sm
    obtain ⟨L0, hL0⟩ : ∃ L0, L0 = ys.filter fun z => decide (val0 B z = outW Pp z) := ⟨_, rfl⟩
    rw [← hL0] at hD
    have nd0 : L0.Nodup := by rw [hL0]; exact (pm.nodup_iff.mpr wf.nb).sublist List.filter_sublist
    have l0 : L0.length ≤ 12 := by
      rw [hL0]
      exact Nat.le_trans (List.length_filter_le _ _) (by omega)
    have mem0 : ∀ x, x ∈ L0 ↔ ∃ b, (x, b) ∈ B ∧ b = outW Pp x := fun x => by
      rw [hL0, List.mem_filter, pm.mem_iff]
      constructor
      · rintro ⟨h1, h2⟩
        obtain ⟨c, g⟩ := getB_some h1
        have h3 : val0 B x = outW Pp x := of_decide_eq_true h2
        unfold val0 at h3
        rw [g] at h3
        exact ⟨c, getB_mem g, h3⟩
      · rintro ⟨c, hc, e⟩
        refine ⟨List.mem_map.mpr ⟨_, hc, rfl⟩, decide_eq_true ?_⟩
        unfold val0
        rw [getB_of_mem wf.nb hc]; exact e
    have nDH : H D = none := s0.free nD
    refine ⟨.ref a, rfl, a, _, rfl, sB a _ hA, _, rfl, by rw [bk_len]; omega, by rw [bk_len]; omega, ?_⟩
    refine for_it walk_range (fun i σ H3 => ∃ (r : Addr) (y3 y4 y5 : Option V), σ = [some (.ref a), some (.ref b), some (.ref r), y3, y4, y5] ∧ H3 r = some (.lst ((leavesN Pp i L0).map V.str)) ∧ H r = none ∧ Same H H3)
      ⟨D, none, none, none, rfl, hD, nDH, sB⟩ (fun _ _ _ _ _ => trivial) ?_ ?_
    · rintro i x σ H3 H3' hi ⟨r, y3, y4, y5, rfl, hr3, nr, s3⟩ ⟨rfl, rfl⟩
      refine ⟨.ref r, rfl, r, rfl, ⟨_, SqL.of hr3⟩, fun D4 nD4 => ?_⟩
      have lL : (leavesN Pp i L0).length ≤ 12 := Nat.le_trans (leavesN_len Pp i L0 nd0) l0
      refine keep_lc (K := K) (b := leafB Pp (leavesN Pp i L0)) (by omega) hr3 nD4 (fun _ => rfl) (fun _ => rfl) (fun z H4 R mz sm4 rr => ?_) (fun H4 hD4 sm4 => ?_)
      · refine pick_ok (K := K) (jp := 1) (jv := 5) (jn := 4) (c := 0) (z := z) (fun p => p.1.1) (fun p => .bl (decide (p.1.2 ∈ leavesN Pp i L0))) at0 wf.lp (sm4 b _ (s3 b _ hB)) rfl (fun _ => rfl) (fun _ => rfl) (fun _ => rfl) (fun p q od H2 R hm sm hq r2 => ?_) fun D5 H5 s5 nD5 hD5 => ?_
        · have hrb : r ≠ b := fun e => by
            subst e
            rw [hB] at nr; cases nr
          refine ⟨.ref q, rfl, q, _, 1, _, rfl, rfl, SqT.of hq, at1 p, .ref r, rfl, r, _, rfl, .inl (SqL.of (sm r _ (by rw [upd_ne hrb]; exact sm4 r _ hr3))), rfl, flat_strs _, ?_⟩
          show R (.bl (inV (.str p.1.2) _)) H2
          rw [inV_strs]
          exact r2
        · refine ⟨D5, (Pp.filter fun p => decide (p.1.1 = z)).map (fun p => decide (p.1.2 ∈ leavesN Pp i L0)), rfl, SqL.of (by rw [hD5, List.map_map]; rfl), _, rfl, ?_⟩
          have := rr H5 s5
          unfold leafB at this
          rw [List.all_map]
          exact this
      · refine ⟨D4, _, _, _, rfl, ?_, s3.free nD4, s3.trans sm4⟩
        rw [leavesN_succ]
        exact hD4
    · rintro σ H3 ⟨r, y3, y4, y5, rfl, hr3, nr, s3⟩
      rw [show ((((bk B).length : Nat) : Int).toNat) = B.length by rw [bk_len]; omega] at hr3
      exact ⟨.ref r, rfl, q r _ H3 s3 nr hr3 (leavesN_nodup _ _ _ nd0) (leavesN_iff wf fit mem0 nd0)⟩
end
end Nl
end
section
set_option maxHeartbeats 1000000
namespace Nl
open PySem PySem.Spec PyProof.Rows L2 Nt
def wrds : List Str := ["pond", "spill", "main", "ok", "pour", "settled", "rest", "a"]
theorem wrds_nm : ∀ z ∈ wrds, Nm z := by
  have : ∀ z ∈ wrds, nameB z = true := by decide +kernel
  exact this
theorem len2 {x y : Str} {m n : Nat} (hx : x.length ≤ m) (hy : y.length ≤ n) (h : m + n ≤ 1000) : x.length + y.length ≤ sizeLine := line1000 (by omega)
section
variable {P : Program} {w : World} {K : PySem.W.Frag} {mg : Str → Option Value} {base : Heap}
theorem scLName : FnScope ["_law_pot_here", "_law_taken", "_law_letters", "_law_size", "_law_word", "_law_near", "_law_at", "_law_some_here", "_law_k", "_law_one"] ["_law_pot_here", "_law_taken"] (defScope sLName) := ⟨rfl, rfl, rfl, by decide +kernel, rfl, by decide +kernel, by decide +kernel⟩
def spLName : Sp := fun vs H Q _ => ∃ (p a : Addr) (L : List Str), vs = [.ref p, .ref a] ∧ PotAt H p ∧ H a = some (.lst (L.map V.str)) ∧ L.length ≤ 80 ∧ (∀ z ∈ L, Nm z) ∧
  ∀ (z : Str) (H' : Hp), Nm z → z ∉ L → H' a = some (.lst ((L ++ [z]).map V.str)) → (∀ b o, b ≠ p → b ≠ a → H b = some o → H' b = some o) → PotAt H' p → Q (.str z) H'
theorem ok_lname {f fD : Addr} {fd fdD : FuncData} (F : Fun K "_law_name" "_law_name" sLName f fd) (FD : Fun K "_law_draw" "_law_draw" sDraw fD fdD) (GD : FnOk P w K mg base CX0 1 fD fdD ["_law_pot_here", "_law_many"] spDraw) (bD : Binds K fdD ["_law_pot_here", "_law_many"] [])
    (gD : mg "_law_draw" = some (.ref fD)) (mr : mg "range" = none) (mn : mg "len" = none) : FnOk P w K mg base CX0 2 f fd ["_law_pot_here", "_law_taken"] spLName := by
  refine F.ok scLName (fun vs H Q E h => ?_) (fun cdv A outer s H vs Q E hr h => ?_)
  · obtain ⟨p, a, L, rfl, _⟩ := h
    rfl
  · obtain ⟨p, a, L, rfl, hP, hA, lL, nL, q⟩ := h
    have hap : a ≠ p := fun e => by
      obtain ⟨x, y, hp, _⟩ := hP
      subst e
      rw [hA] at hp
      cases L with
      | nil => cases hp
      | cons z l => simp at hp
    refine ⟨_, pss_cons (ps_set (i := 2) scLName.nd rfl (by first | exact .inl rfl | exact .inr rfl) pe_str)
      (pss_cons (ps_set (i := 3) scLName.nd rfl (by first | exact .inl rfl | exact .inr rfl) (pe_ix ix_list (pe_lst (pa_cons pe_int (pa_cons pe_int (pa_cons pe_int (pa_cons pe_int (pa_cons (pe_op op_add pe_int (pe_call GD hr (by rfl) gD FD.kp bD .nil pass0 (pa_cons (pv 0) (pa_cons pe_int pa_nil)))) pa_nil))))))
        (pe_call GD hr (by rfl) gD FD.kp bD .nil pass0 (pa_cons (pv 0) (pa_cons pe_int pa_nil))) (fun _ _ => rfl)))
      (pss_cons (ps_set (i := 4) scLName.nd rfl (by first | exact .inl rfl | exact .inr rfl) (pe_join pe_str (pe_lc (own := [("_law_k", 8)]) (g := gName 8) (tt := tYes) rfl scLName.nd (pi_range1 (by rfl) mr (pa_cons (pv 3) pa_nil))
        (blkOk_by (N := ["_law_pot_here", "_law_taken", "_law_letters", "_law_size", "_law_word", "_law_near", "_law_at", "_law_some_here", "_law_k", "_law_one"]) (sc := defScope sLName) (by decide +kernel)) (fun _ _ _ _ _ => pg_name (i := 8) scLName.nd rfl (Or.inl rfl)) (fun _ _ _ _ _ => pts_nil)
        (fun _ _ _ _ _ => pe_ix ix_str (pv 2) (pe_call GD hr (by rfl) gD FD.kp bD .nil pass0 (pa_cons (pv 0) (pa_cons pe_int pa_nil))) (fun _ _ => rfl)))))
      (pss_cons (ps_mid (ps_if (PW.pt (pw_and (pt_cmpR (op_neD hr.units) (pv 1) (pe_lst pa_nil) (nomark _)) (pw_and1 (pt_cmpR op_eq (pe_call GD hr (by rfl) gD FD.kp bD .nil pass0 (pa_cons (pv 0) (pa_cons pe_int pa_nil))) pe_int (nomark _)))))
        (pss_cons (ps_set (i := 5) scLName.nd rfl (by first | exact .inl rfl | exact .inr rfl) (pe_ix ix_list (pv 1) (pe_call GD hr (by rfl) gD FD.kp bD .nil pass0 (pa_cons (pv 0) (pa_cons (pe_callB call_len_seq (by rfl) mn PySem.boot_len (pa_cons (pv 1) pa_nil)) pa_nil))) (fun _ _ => rfl)))
        (pss_cons (ps_set (i := 6) scLName.nd rfl (by first | exact .inl rfl | exact .inr rfl) (pe_call GD hr (by rfl) gD FD.kp bD .nil pass0 (pa_cons (pv 0) (pa_cons (pe_callB call_len_str (by rfl) mn PySem.boot_len (pa_cons (pv 5) pa_nil)) pa_nil))))
        (pss_one (ps_set (i := 4) scLName.nd rfl (by first | exact .inl rfl | exact .inr rfl) (pe_op op_add_str (pe_op op_add_str (pe_slice sl_str (pv 5) po_none (po_some (pv 6))) (pe_slice sl_str (pv 4) po_none (po_some pe_int))) (pe_slice sl_str (pv 5) (po_some (pe_op op_add (pv 6) pe_int)) po_none)))))) pss_nil))
      (pss_cons (ps_mid (ps_if (pt_cmpR op_in_seq (pv 4) (pv 1) (by rfl))
        (pss_cons (ps_setLc (i := 7) (own := [("_law_k", 8)]) (g := gName 8) (tt := tYes) rfl scLName.nd rfl rfl rfl (pi_range1 (by rfl) mr (pa_cons pe_int pa_nil))
          (blkOk_by (N := ["_law_pot_here", "_law_taken", "_law_letters", "_law_size", "_law_word", "_law_near", "_law_at", "_law_some_here", "_law_k", "_law_one"]) (sc := defScope sLName) (by decide +kernel)) (fun _ _ _ _ _ => pg_name (i := 8) scLName.nd rfl (Or.inl rfl)) (fun _ _ _ _ _ => pts_nil)
          (fun _ _ _ _ _ => pe_op op_add_str (pe_op op_add_str (pe_slice sl_str (pv 4) po_none (po_some pe_int)) (pe_ix ix_str (pv 2) (pe_op op_fdiv (pv 8) pe_int) (fun _ _ => rfl))) (pe_ix ix_str (pv 2) (pe_op op_mod (pv 8) pe_int) (fun _ _ => rfl))))
        (pss_one (ps_set (i := 4) scLName.nd rfl (by first | exact .inl rfl | exact .inr rfl) (pe_ix ix_list (pe_lc (own := [("_law_one", 9)]) (g := gName 9) (tt := tTest (tOp (rIn K true) (tVar 9) (tVar 1))) (te := tVar 9) rfl scLName.nd (pi_list (pv 7))
          (blkOk_by (N := ["_law_pot_here", "_law_taken", "_law_letters", "_law_size", "_law_word", "_law_near", "_law_at", "_law_some_here", "_law_k", "_law_one"]) (sc := defScope sLName) (by decide +kernel)) (fun _ _ _ _ _ => pg_name (i := 9) scLName.nd rfl (Or.inl rfl))
          (fun _ _ _ _ _ => pts_one (pt_cmpR op_notIn_seq (pv 9) (pv 1) (by rfl))) (fun _ _ _ _ _ => pv 9)) pe_int (fun _ _ => rfl))))) pss_nil))
      (pss_cons (ps_expr (pe_bm PySem.F.plainAttrs_list PySem.F.slot_list_append PySem.F.type_list_append mt_append (pv 1) (pa_cons (pv 4) pa_nil)))
      (pss_one (ps_ret (pv 4)))))))), ?_⟩
    -- size
    refine ⟨.ref p, rfl, p, 8, rfl, hP, by decide, by decide, fun d1 H1 k1 hP1 d10 d11 => ?_⟩
    refine ⟨1, d1, rfl, rfl, line1000 (by show 5 ≤ 1000; decide), fun l nl => ?_⟩
    have hlp : l ≠ p := hP1.ne nl
    refine ⟨.ref p, rfl, p, 5, rfl, hP1.new nl, by decide, by decide, fun d2 H2 k2 hP2 d20 d21 => ?_⟩
    have hsz : ∃ sz : Int, atI [V.int 1, V.int 1, V.int 2, V.int 8, V.int (1 + d1)] d2 = some (.int sz) ∧ 1 ≤ sz ∧ sz ≤ 8 := by
      have : d2 = 0 ∨ d2 = 1 ∨ d2 = 2 ∨ d2 = 3 ∨ d2 = 4 := by omega
      rcases this with rfl | rfl | rfl | rfl | rfl
      · exact ⟨1, atI_nat (j := 0) rfl, by decide, by decide⟩
      · exact ⟨1, atI_nat (j := 1) rfl, by decide, by decide⟩
      · exact ⟨2, atI_nat (j := 2) rfl, by decide, by decide⟩
      · exact ⟨8, atI_nat (j := 3) rfl, by decide, by decide⟩
      · exact ⟨1 + d1, atI_nat (j := 4) rfl, by omega, by omega⟩
    obtain ⟨sz, hat, z1, z8⟩ := hsz
    refine ⟨l, _, d2, .int sz, rfl, rfl, SqL.of (k2 l _ hlp upd_same), hat, ?_⟩
    have kA : Kp p H H2 := k1.trans ((Kp.new nl).trans k2)
    -- word
    refine ⟨⟨_, rfl⟩, .int sz, rfl, sz, rfl, by omega, by omega, fun D nD => ?_⟩
    have hDp := hP2.ne nD
    refine lc_it (n := sz.toNat) walk_range (fun i H3 => ∃ cs : List Nat, H3 D = some (.lst ((cs.map sg).map V.str)) ∧ cs.length = i ∧ (∀ c ∈ cs, c ∈ abc.cps.toList) ∧ Kp p H H3 ∧ PotAt H3 p)
      ⟨[], upd_same, rfl, fun c hc => absurd hc List.not_mem_nil, kA.trans (Kp.new nD), hP2.new nD⟩ (fun _ _ _ _ => trivial) ?_ ?_
    · rintro i x H3 H3' hi ⟨cs, hD, hl, hy, kp, hP3⟩ ⟨rfl, rfl⟩
      refine ⟨rfl, .str abc, rfl, .ref p, rfl, p, 26, rfl, hP3, by decide, by decide, fun d H4 k4 hP4 d0 d1 => ?_⟩
      obtain ⟨c, hc, hm, _⟩ := abc_at d0 d1
      refine ⟨abc, d, c, rfl, rfl, by rw [abc_len]; decide, hc, _, k4 _ _ hDp hD, ?_, cs ++ [c], ?_, ?_, ?_, ?_, ?_⟩
      · rw [List.length_map, List.length_map, hl]; exact small1000 (by omega)
      · rw [upd_same, List.map_append, List.map_append]; rfl
      · rw [List.length_append, hl]; rfl
      · intro y hy'
        rcases List.mem_append.mp hy' with e | e
        · exact hy y e
        · have : y = c := by simpa using e
          subst this; exact hm
      · intro b o nb e
        by_cases hb : b = D
        · subst hb
          have := kA b o nb e
          rw [nD] at this; cases this
        · rw [upd_ne hb]
          exact k4 b o nb (kp b o nb e)
      · exact hP4.put hDp
    rintro H3 ⟨cs, hD, hl, hy, kp, hP3⟩
    refine ⟨_, D, cs.map sg, rfl, rfl, .inl (SqL.of hD), ?_, ?_⟩
    · show ((cs.map sg).map (·.length)).sum + (cs.map sg).length * 0 ≤ _
      rw [lens_sg]
      exact line1000 (by omega)
    obtain ⟨wd, hwd⟩ : ∃ wd, wd = Txt.join Str.empty (cs.map sg) := ⟨_, rfl⟩
    have nw : Nm wd := by
      have e : wd.cps.toList = cs := by rw [hwd, join_sg]
      exact nm_of (fun c hc => hy c (by rw [← e]; exact hc)) (by rw [e, hl]; omega) (by rw [e, hl]; omega)
    show tMid _ _ [some (V.ref p), some (V.ref a), some (V.str abc), some (V.int sz), some (V.str (Txt.join Str.empty (cs.map sg))), none, none, none, none, none] H3
    rw [← hwd]
    -- near
    refine ⟨fun σ' H' => ∃ (wd : Str) (y5 y6 : Option V), σ' = [some (.ref p), some (.ref a), some (.str abc), some (.int sz), some (.str wd), y5, y6, none, none, none] ∧ Nm wd ∧ PotAt H' p ∧ Kp p H H', ?_, ?_⟩
    · refine ⟨.ref a, rfl, Nat.zero_le _, fun e ne => ?_⟩
      have s3 : Same H3 (upd H3 e (.lst [])) := same_new ne
      have hA3 := s3 a _ (kp a _ hap hA)
      have kp' : Kp p H (upd H3 e (.lst [])) := kp.trans (Kp.new ne)
      refine ne_nil hA3 upd_same (fun z hz => (nL z hz).sm.mono (by decide)) ⟨_, rfl, ite2 (fun c => ?_) (fun c => ?_)⟩
      · have hL0 : 0 < L.length := List.length_pos_iff.mpr fun z => by subst z; exact absurd c (by decide)
        refine ⟨.ref p, rfl, p, 4, rfl, hP3.new ne, by decide, by decide, fun d H4 k4 hP4 d0 d1 => ?_⟩
        have hA4 := k4 a _ hap hA3
        refine ⟨rfl, _, rfl, ite2 (fun c => ?_) (fun c => ?_)⟩
        · refine ⟨.ref a, rfl, .ref p, rfl, .ref a, rfl, a, _, rfl, .inl (SqL.of hA4), p, _, rfl, hP4, by rw [List.length_map]; omega, by rw [List.length_map]; omega, fun d5 H5 k5 hP5 d50 d51 => ?_⟩
          rw [List.length_map] at d51
          have hj : d5.toNat < L.length := by omega
          have hy5 : L[d5.toNat]? = some L[d5.toNat] := List.getElem?_eq_getElem hj
          have hm5 : L[d5.toNat] ∈ L := List.getElem_mem hj
          have nn := nL _ hm5
          obtain ⟨nr, hnr⟩ : ∃ nr, nr = L[d5.toNat] := ⟨_, rfl⟩
          rw [← hnr] at hy5 nn
          obtain ⟨⟨n1, n8⟩, nab⟩ := Nm.iff.mp nn
          obtain ⟨⟨w1, w8⟩, wab⟩ := Nm.iff.mp nw
          have hx5 : atI (L.map V.str) d5 = some (.str nr) := by
            have e : d5 = ((d5.toNat : Nat) : Int) := by omega
            rw [e]
            exact atI_nat (by rw [List.getElem?_map, hy5]; rfl)
          refine ⟨a, _, d5, .str nr, rfl, rfl, SqL.of (k5 a _ hap hA4), hx5, ?_⟩
          refine ⟨.ref p, rfl, .str nr, rfl, nr, rfl, line1000 (by omega), p, _, rfl, hP5, by omega, by omega, fun t H6 k6 hP6 t0 t1 => ?_⟩
          have e1 := cut_to (z := nr) (k := t) t0 (by omega)
          have e2 := cut_to (z := wd) (k := 1) (by decide) (by omega)
          have e3 := cut_from (z := nr) (k := t + 1) (by omega) (by omega)
          have g1 := cutS_length nr none (some t)
          have g2 := cutS_length wd none (some 1)
          have g3 := cutS_length nr (some (t + 1)) none
          refine ⟨.str nr, rfl, .int t, rfl, t, rfl, nr, rfl, line1000 (by omega), .str wd, rfl, 1, rfl, wd, rfl, line1000 (by omega), _, _, rfl, rfl, line1000 (by omega), ?_⟩
          refine ⟨.str nr, rfl, .int t, rfl, t, 1, rfl, rfl, t + 1, rfl, nr, rfl, line1000 (by omega), _, _, rfl, rfl, line1000 (by rw [strLen_append]; omega), ?_⟩
          refine ⟨_, _, _, rfl, nm_of (((Ab.cut nab _ _).add (Ab.cut wab _ _)).add (Ab.cut nab _ _)) ?_ ?_, hP6, kp'.trans (k4.trans (k5.trans k6))⟩
          · rw [add_list, add_list, e1, e2, e3, List.length_append, List.length_append, List.length_take, List.length_take, List.length_drop, ← len_list, ← len_list]
            show 1 ≤ min t.toNat nr.length + min 1 wd.length + (nr.length - (t + 1).toNat)
            omega
          · rw [add_list, add_list, e1, e2, e3, List.length_append, List.length_append, List.length_take, List.length_take, List.length_drop, ← len_list, ← len_list]
            show min t.toNat nr.length + min 1 wd.length + (nr.length - (t + 1).toNat) ≤ 8
            omega
        · exact ⟨wd, none, none, rfl, nw, hP4, kp'.trans k4⟩
      · exact iteF ⟨wd, none, none, rfl, nw, hP3.new ne, kp'⟩
    clear nw hwd wd hP3 kp hD
    rintro σ H3 ⟨wd, y5, y6, rfl, nw, hP3, kp⟩
    have hA3 := kp a _ hap hA
    -- not taken
    refine ⟨fun σ' H' => ∃ (wd : Str) (y7 : Option V), σ' = [some (.ref p), some (.ref a), some (.str abc), some (.int sz), some (.str wd), y5, y6, y7, none, none] ∧ Nm wd ∧ wd ∉ L ∧ PotAt H' p ∧ Kp p H H', ?_, ?_⟩
    · refine ⟨.str wd, rfl, .ref a, rfl, a, _, rfl, .inl (SqL.of hA3), rfl, flat_strs _, ?_⟩
      show ∃ k, V.bl (inV (.str wd) (L.map V.str)) = .bl k ∧ _
      rw [inV_strs]
      refine ⟨_, rfl, ite2 (fun c => ?_) (fun c => ?_)⟩
      · obtain ⟨⟨w1, w8⟩, wab⟩ := Nm.iff.mp nw
        refine ⟨90, rfl, by decide, by decide, fun D2 nD2 => ?_⟩
        obtain ⟨pre, hpre⟩ : ∃ pre, pre = cutS wd none (some 6) := ⟨_, rfl⟩
        have pl : pre.length ≤ 6 := by
          rw [hpre, len_list]
          by_cases h6 : (6 : Int) ≤ wd.length
          · rw [cut_to (by decide) h6, List.length_take]
            show min 6 _ ≤ 6
            omega
          · rw [cut_all (by decide) (by omega), ← len_list]; omega
        have pab : Ab pre := by rw [hpre]; exact Ab.cut wab _ _
        refine lc_it (n := 90) walk_range (fun i H4 => H4 D2 = some (.lst (((List.range i).map (cand pre)).map V.str)) ∧ Same H3 H4) ⟨upd_same, same_new nD2⟩ (fun _ _ _ _ => trivial) ?_ ?_
        · rintro i x H4 H4' hi ⟨hD4, sm⟩ ⟨rfl, rfl⟩
          have q0 : (0 : Int) ≤ (0 + (i : Int)) / 26 := by omega
          obtain ⟨c1, hc1, hm1, hg1⟩ := abc_at (d := (0 + (i : Int)) / 26) q0 (by omega)
          obtain ⟨c2, hc2, hm2, hg2⟩ := abc_at (d := (0 + (i : Int)) % 26) (by omega) (by omega)
          refine ⟨rfl, .str wd, rfl, 6, rfl, wd, rfl, line1000 (by omega), .str abc, rfl, .int (0 + (i : Int)), rfl, _, 26, rfl, rfl, ⟨by decide, by decide⟩, abc, _, c1, rfl, rfl, by rw [abc_len]; decide, hc1, _, _, rfl, rfl, ?_,
            .str abc, rfl, .int (0 + (i : Int)), rfl, _, 26, rfl, rfl, (by show (0 : Int) < 26; decide), abc, _, c2, rfl, rfl, by rw [abc_len]; decide, hc2, _, _, rfl, rfl, ?_, _, hD4, ?_, ?_, ?_⟩
          · rw [← hpre]
            show pre.length + 1 ≤ _
            exact line1000 (by omega)
          · rw [← hpre, strLen_append]
            show pre.length + 1 + 1 ≤ _
            exact line1000 (by omega)
          · rw [List.length_map, List.length_map, List.length_range]; exact small1000 (by omega)
          · rw [upd_same, List.range_succ, List.map_append, List.map_append, ← hpre]
            have t1 : ((0 + (i : Int)) / 26).toNat = i / 26 := by omega
            have t2 : ((0 + (i : Int)) % 26).toNat = i % 26 := by omega
            rw [t1] at hg1
            rw [t2] at hg2
            have e : pre ++ (⟨#[c1]⟩ : Str) ++ (⟨#[c2]⟩ : Str) = cand pre i := by
              unfold cand sg
              rw [List.getD_eq_getElem?_getD, List.getD_eq_getElem?_getD, hg1, hg2]; rfl
            rw [e]; rfl
          · exact fun c o ec => by
              have nb : c ≠ D2 := ne_of_none ec nD2
              rw [upd_ne nb]; exact sm c o ec
        rintro H4 ⟨hD4, sm⟩
        refine ⟨.ref D2, rfl, D2, rfl, ⟨_, SqL.of hD4⟩, fun D5 nD5 => ?_⟩
        refine keep_lc (K := K) (b := fun z => !decide (z ∈ L)) (by rw [List.length_map, List.length_range]; decide) hD4 nD5 (fun _ => rfl) (fun _ => rfl) (fun z H5 R mz sm5 r => ?_) (fun H5 hD5 sm5 => ?_)
        · refine ⟨.str z, rfl, .ref a, rfl, a, _, rfl, .inl (SqL.of (sm5 a _ (sm a _ hA3))), rfl, flat_strs _, ?_⟩
          refine ⟨_, rfl, ?_⟩
          show R (!inV (.str z) (L.map V.str)) H5
          rw [inV_strs]
          exact r H5 (Same.refl _)
        · have ne := cand_free (z := pre) (L := L) (by omega)
          cases hf : (((List.range 90).map (cand pre)).filter fun x => !decide (x ∈ L)) with
          | nil => exact absurd hf ne
          | cons wx rest =>
            rw [hf] at hD5
            have mx : wx ∈ (((List.range 90).map (cand pre)).filter fun x => !decide (x ∈ L)) := by rw [hf]; exact List.mem_cons_self
            obtain ⟨m1, m2⟩ := List.mem_filter.mp mx
            have nx : wx ∉ L := fun z => by rw [decide_eq_true z] at m2; cases m2
            obtain ⟨j, hj, ej⟩ := List.mem_map.mp m1
            have hj90 := List.mem_range.mp hj
            have nwx : Nm wx := by
              rw [← ej]
              have cl := cand_list pre j
              refine nm_of ?_ ?_ ?_
              · intro c hc
                rw [cl] at hc
                rcases List.mem_append.mp hc with h | h
                · exact pab c h
                · have gd : ∀ k, k < 26 → abc.cps.toList.getD k 0 ∈ abc.cps.toList := fun k hk => by
                    have hk' : k < abc.cps.toList.length := by rw [abc_len2]; exact hk
                    rw [List.getD_eq_getElem?_getD, List.getElem?_eq_getElem hk']
                    exact List.getElem_mem hk'
                  have h' : c = abc.cps.toList.getD (j / 26) 0 ∨ c = abc.cps.toList.getD (j % 26) 0 := by simpa using h
                  rcases h' with rfl | rfl
                  · exact gd _ (by omega)
                  · exact gd _ (by omega)
              · rw [cl, List.length_append]
                show 1 ≤ _ + 2
                omega
              · rw [cl, List.length_append, ← len_list]
                show _ + 2 ≤ 8
                omega
            refine ⟨D5, _, 0, .str wx, rfl, rfl, SqL.of hD5, atI_nat (j := 0) rfl, ?_⟩
            exact ⟨wx, _, rfl, nwx, nx, (hP3.same sm).same sm5, kp.trans (Kp.of_same (sm.trans sm5))⟩
      · exact ⟨wd, none, rfl, nw, fun z => c (decide_eq_true z), hP3, kp⟩
    clear nw hP3 kp hA3 wd
    rintro σ H3 ⟨wd, y7, rfl, nw, fw, hP3, kp⟩
    have hA3 := kp a _ hap hA
    refine ⟨.ref a, rfl, .inl ⟨rfl, _, SqL.of hA3⟩, .str wd, rfl, a, _, _, rfl, rfl, hA3, by rw [List.length_map]; exact small1000 (by omega), ?_⟩
    refine ⟨.str wd, rfl, q wd _ nw fw ?_ ?_ (hP3.put hap)⟩
    · rw [upd_same, List.map_append]; rfl
    · intro b o nb na e
      rw [upd_ne na]; exact kp b o nb e
end
end Nl
end
section
set_option maxHeartbeats 2000000
namespace Nl
open PySem PySem.Spec PyProof.Rows L2 Nt
section
variable {P : Program} {w : World} {K : PySem.W.Frag} {mg : Str → Option Value} {base : Heap}
theorem scNet : FnScope ["_law_pot_here", "_law_most", "_law_high", "_law_wide", "_law_joins", "_law_names", "_law_k", "_law_name_here", "_law_one", "_law_other", "_law_room_here", "_law_turn", "_law_closed_here", "_law_two"] ["_law_pot_here", "_law_most", "_law_high"] (defScope sNet) := ⟨rfl, rfl, rfl, by decide +kernel, rfl, by decide +kernel, by decide +kernel⟩
def spNet : Sp := fun vs H Q _ => ∃ (p : Addr) (mo hi : Int), vs = [.ref p, .int mo, .int hi] ∧ PotAt H p ∧ 4 ≤ mo ∧ mo ≤ 12 ∧ 1 ≤ hi ∧ hi ≤ 60 ∧
  ∀ (t a b : Addr) (B : Br) (Pp : Pi) (H' : Hp), Kp p H H' → PotAt H' p → H t = none → H a = none → H b = none → H' t = some (.tup [.ref a, .ref b]) → H' a = some (.dK (bk B)) → H' b = some (.dT (pt Pp)) → Good B Pp → Q (.ref t) H'
theorem ok_net {f fD fN fR fC : Addr} {fd fdD fdN fdR fdC : FuncData} (F : Fun K "_law_net" "_law_net" sNet f fd) (FD : Fun K "_law_draw" "_law_draw" sDraw fD fdD) (GD : FnOk P w K mg base CX0 1 fD fdD ["_law_pot_here", "_law_many"] spDraw) (bD : Binds K fdD ["_law_pot_here", "_law_many"] []) (gD : mg "_law_draw" = some (.ref fD))
    (FN : Fun K "_law_name" "_law_name" sLName fN fdN) (GN : FnOk P w K mg base CX0 2 fN fdN ["_law_pot_here", "_law_taken"] spLName) (bN : Binds K fdN ["_law_pot_here", "_law_taken"] []) (gN : mg "_law_name" = some (.ref fN))
    (FR : Fun K "_law_room" "_law_room" sRoom fR fdR) (GR : FnOk P w K mg base CX0 1 fR fdR ["_law_wide", "_law_joins", "_law_one", "_law_other"] spRoom) (bR : Binds K fdR ["_law_wide", "_law_joins", "_law_one", "_law_other"] []) (gR : mg "_law_room" = some (.ref fR))
    (FC : Fun K "_law_closed" "_law_closed" sClosed fC fdC) (GC : FnOk P w K mg base CX0 1 fC fdC ["_law_wide", "_law_joins"] spClosed) (bC : Binds K fdC ["_law_wide", "_law_joins"] []) (gC : mg "_law_closed" = some (.ref fC))
    (mr : mg "range" = none) (mn : mg "len" = none) (mm : mg "min" = none) (mso : mg "sorted" = none) : FnOk P w K mg base CX0 3 f fd ["_law_pot_here", "_law_most", "_law_high"] spNet := by
  refine F.ok scNet (fun vs H Q E h => ?_) (fun cdv A outer s H vs Q E hr h => ?_)
  · obtain ⟨p, mo, hi, rfl, _⟩ := h
    rfl
  · obtain ⟨p, mo, hi, rfl, hP, mo4, mo12, hi1, hi60, q⟩ := h
    have hu := hu_of hr
    have hr1 := hr.mono (show 1 ≤ 2 by decide)
    refine ⟨_, pss_cons (ps_par3 (i := 3) (j := 4) (l := 5) rfl scNet.nd rfl rfl rfl (by decide) (by decide) (by decide) rfl rfl rfl (pa_cons pe_dnewK (pa_cons pe_dnewT (pa_cons (pe_lst pa_nil) pa_nil))) (by rfl))
      (pss_cons (ps_for PassesOwn.never rfl (pi_range1 (by rfl) mr (pa_cons (pe_ix ix_list (pe_lst (pa_cons pe_int (pa_cons pe_int (pa_cons pe_int (pa_cons pe_int (pa_cons pe_int (pa_cons pe_int (pa_cons (pe_call GD hr1 (by rfl) gD FD.kp bD .nil pass0 (pa_cons (pv 0) (pa_cons (pe_op op_add (pv 1) pe_int) pa_nil))) (pa_cons (pv 1) pa_nil)))))))))
          (pe_call GD hr1 (by rfl) gD FD.kp bD .nil pass0 (pa_cons (pv 0) (pa_cons pe_int pa_nil))) (fun _ _ => rfl)) pa_nil)) (pg_name (i := 6) scNet.nd rfl (Or.inl rfl))
        (pss_one (ps_if (pt_cmpR op_lt (pv 6) (pv 1) (nomark _))
          (pss_one (ps_dput hu (pv 3) (pe_call GN hr (by rfl) gN FN.kp bN .nil pass0 (pa_cons (pv 0) (pa_cons (pv 5) pa_nil))) (pe_op op_add pe_int (pe_call GD hr1 (by rfl) gD FD.kp bD .nil pass0 (pa_cons (pv 0) (pa_cons (pe_ix ix_list (pe_lst (pa_cons (pv 2) (pa_cons (pe_callB (call_min2 rfl) (by rfl) mm (by decide +kernel) (pa_cons pe_int (pa_cons (pv 2) pa_nil))) pa_nil)))
            (pe_call GD hr1 (by rfl) gD FD.kp bD .nil pass0 (pa_cons (pv 0) (pa_cons pe_int pa_nil))) (fun _ _ => rfl)) pa_nil)))) rfl)) pss_nil)))
      (pss_cons (ps_for PassesOwn.never rfl (pi_list (pv 5)) (pg_name (i := 8) scNet.nd rfl (Or.inr rfl))
        (pss_one (ps_for PassesOwn.never rfl (pi_list (pv 5)) (pg_name (i := 9) scNet.nd rfl (Or.inl rfl))
          (pss_cons (ps_set (i := 10) scNet.nd rfl (by first | exact .inl rfl | exact .inr rfl) (pe_ifExp (pt_cmpR op_eq (pv 8) (pv 9) (nomark _)) pe_int (pe_call GR hr1 (by rfl) gR FR.kp bR .nil pass0 (pa_cons (pv 3) (pa_cons (pv 4) (pa_cons (pv 8) (pa_cons (pv 9) pa_nil)))))))
          (pss_one (ps_if (PW.pt (pw_and (pt_cmpR op_gt (pv 10) pe_int (nomark _)) (pw_and1 (pt_cmpR op_gt (pe_call GD hr1 (by rfl) gD FD.kp bD .nil pass0 (pa_cons (pv 0) (pa_cons pe_int pa_nil))) pe_int (nomark _)))))
            (pss_one (ps_dput hu (pv 4) (pe_tup (pa_cons (pv 8) (pa_cons (pv 9) pa_nil))) (pe_ix ix_list (pe_lst (pa_cons (pe_op op_add pe_int (pe_call GD hr1 (by rfl) gD FD.kp bD .nil pass0 (pa_cons (pv 0) (pa_cons (pv 10) pa_nil)))) (pa_cons (pv 10) (pa_cons pe_int pa_nil))))
              (pe_call GD hr1 (by rfl) gD FD.kp bD .nil pass0 (pa_cons (pv 0) (pa_cons pe_int pa_nil))) (fun _ _ => rfl)) rfl)) pss_nil))))))
      (pss_cons (ps_for PassesOwn.never rfl (pi_range1 (by rfl) mr (pa_cons (pe_callB call_len_seq (by rfl) mn PySem.boot_len (pa_cons (pv 5) pa_nil)) pa_nil)) (pg_name (i := 11) scNet.nd rfl (Or.inl rfl))
        (pss_cons (ps_set (i := 12) scNet.nd rfl (by first | exact .inl rfl | exact .inr rfl) (pe_call GC hr1 (by rfl) gC FC.kp bC .nil pass0 (pa_cons (pv 3) (pa_cons (pv 4) pa_nil))))
        (pss_one (ps_if (pt_cmpR (op_neD hr.units) (pv 12) (pe_lst pa_nil) (nomark _))
          (pss_cons (ps_set (i := 8) scNet.nd rfl (by first | exact .inl rfl | exact .inr rfl) (pe_ix ix_list (pv 12) (pe_call GD hr1 (by rfl) gD FD.kp bD .nil pass0 (pa_cons (pv 0) (pa_cons (pe_callB call_len_seq (by rfl) mn PySem.boot_len (pa_cons (pv 12) pa_nil)) pa_nil))) (fun _ _ => rfl)))
          (pss_one (ps_expr (pe_bm PySem.F.plainAttrs_dict PySem.F.slot_dict_pop PySem.F.type_dict_pop (Rl.mt_popT1 hu) (pv 4) (pa_cons (pe_ix ix_list (pe_lc (own := [("_law_two", 13)]) (g := gName 13)
            (tt := tTest (tOp rEq (tOp (rIxT K) (tVar 13) (tC (.int 0))) (tVar 8))) (te := tVar 13) rfl scNet.nd (pi_list (pe_callB (Rl.call_sortD rfl) (by rfl) mso (by decide +kernel) (pa_cons (pv 4) pa_nil)))
            (blkOk_by (N := ["_law_pot_here", "_law_most", "_law_high", "_law_wide", "_law_joins", "_law_names", "_law_k", "_law_name_here", "_law_one", "_law_other", "_law_room_here", "_law_turn", "_law_closed_here", "_law_two"]) (sc := defScope sNet) (by decide +kernel))
            (fun _ _ _ _ _ => pg_name (i := 13) scNet.nd rfl (Or.inl rfl)) (fun _ _ _ _ _ => pts_one (pt_cmpR op_eq (pe_ix ix_tup (pv 13) pe_int (fun _ _ => rfl)) (pv 8) (nomark _))) (fun _ _ _ _ _ => pv 13)) pe_int (fun _ _ => rfl)) pa_nil))))) pss_nil))))
      (pss_one (ps_ret (pe_tup (pa_cons (pv 3) (pa_cons (pv 4) pa_nil)))))))), ?_⟩
    -- {}, {}, []
    refine fun a na => ?_
    refine fun b nb => ?_
    refine ⟨Nat.zero_le _, fun n nn => ?_⟩
    refine ⟨_, _, _, rfl, ?_⟩
    have hab : a ≠ b := ne_of_none upd_same nb
    have hbn : b ≠ n := ne_of_none upd_same nn
    have han : a ≠ n := ne_of_none (show (upd (upd H a (.dK [])) b (.dT [])) a = some (.dK []) by rw [upd_ne hab]; exact upd_same) nn
    have hap := hP.ne na
    have hbp := (hP.new (o := .dK []) na).ne nb
    have hnp := ((hP.new (o := .dK []) na).new (o := .dT []) nb).ne nn
    have nbH : H b = none := by rw [upd_ne (Ne.symm hab)] at nb; exact nb
    have nnH : H n = none := by
      rw [upd_ne (Ne.symm hbn), upd_ne (Ne.symm han)] at nn; exact nn
    have hP0 : PotAt (upd (upd (upd H a (.dK [])) b (.dT [])) n (.lst [])) p := ((hP.new na).new nb).new nn
    have k0 : Kp p H (upd (upd (upd H a (.dK [])) b (.dT [])) n (.lst [])) := (Kp.new na).trans ((Kp.new nb).trans (Kp.new nn))
    have ha0 : (upd (upd (upd H a (.dK [])) b (.dT [])) n (.lst [])) a = some (.dK (bk [])) := by rw [upd_ne han, upd_ne hab]; exact upd_same
    have hb0 : (upd (upd (upd H a (.dK [])) b (.dT [])) n (.lst [])) b = some (.dT (pt [])) := by rw [upd_ne hbn]; exact upd_same
    have hn0 : (upd (upd (upd H a (.dK [])) b (.dT [])) n (.lst [])) n = some (.lst ((nms []).map V.str)) := upd_same
    obtain ⟨H0, hH0⟩ : ∃ H0, H0 = upd (upd (upd H a (.dK [])) b (.dT [])) n (.lst []) := ⟨_, rfl⟩
    rw [← hH0] at hP0 k0 ha0 hb0 hn0 ⊢
    -- the number of ponds
    refine ⟨.ref p, rfl, .int mo, rfl, mo, 1, rfl, rfl, p, _, rfl, hP0, by omega, by omega, fun d1 H1 k1 hP1 d10 d11 => ?_⟩
    refine ⟨.int mo, rfl, line1000 (by show 8 ≤ 1000; decide), fun l nl => ?_⟩
    have hlp := hP1.ne nl
    refine ⟨.ref p, rfl, p, 8, rfl, hP1.new nl, by decide, by decide, fun d2 H2 k2 hP2 d20 d21 => ?_⟩
    have hsz : ∃ sz : Int, atI [V.int 0, V.int 1, V.int 2, V.int 3, V.int 3, V.int 4, V.int d1, V.int mo] d2 = some (.int sz) ∧ 0 ≤ sz ∧ sz ≤ mo := by
      have : d2 = 0 ∨ d2 = 1 ∨ d2 = 2 ∨ d2 = 3 ∨ d2 = 4 ∨ d2 = 5 ∨ d2 = 6 ∨ d2 = 7 := by omega
      rcases this with rfl | rfl | rfl | rfl | rfl | rfl | rfl | rfl
      · exact ⟨0, atI_nat (j := 0) rfl, by omega, by omega⟩
      · exact ⟨1, atI_nat (j := 1) rfl, by omega, by omega⟩
      · exact ⟨2, atI_nat (j := 2) rfl, by omega, by omega⟩
      · exact ⟨3, atI_nat (j := 3) rfl, by omega, by omega⟩
      · exact ⟨3, atI_nat (j := 4) rfl, by omega, by omega⟩
      · exact ⟨4, atI_nat (j := 5) rfl, by omega, by omega⟩
      · exact ⟨d1, atI_nat (j := 6) rfl, by omega, by omega⟩
      · exact ⟨mo, atI_nat (j := 7) rfl, by omega, by omega⟩
    obtain ⟨sz, hat, sz0, szm⟩ := hsz
    have kk : Kp p H0 H2 := k1.trans ((Kp.new nl).trans k2)
    refine ⟨l, _, d2, .int sz, rfl, rfl, SqL.of (k2 l _ hlp upd_same), hat, sz, rfl, by omega, by omega, ?_⟩
    refine for_it walk_range (fun i σ H3 => ∃ (B : Br) (y6 y7 : Option V), σ = [some (.ref p), some (.int mo), some (.int hi), some (.ref a), some (.ref b), some (.ref n), y6, y7, none, none, none, none, none, none] ∧ H3 a = some (.dK (bk B)) ∧ H3 b = some (.dT (pt [])) ∧ H3 n = some (.lst ((nms B).map V.str)) ∧
        (nms B).Nodup ∧ B.length = i ∧ (∀ r ∈ B, Nm r.1 ∧ 1 ≤ r.2 ∧ r.2 ≤ 60) ∧ Kp p H H3 ∧ PotAt H3 p)
      ⟨[], none, none, rfl, kk a _ hap ha0, kk b _ hbp hb0, kk n _ hnp hn0, List.nodup_nil, rfl, fun r h => absurd h List.not_mem_nil, k0.trans kk, hP2⟩ (fun _ _ _ _ _ => trivial) ?_ ?_
    · rintro i x σ H3 H3' hi3 ⟨B, y6, y7, rfl, ha3, hb3, hn3, ndB, lB, okB, kp, hP3⟩ ⟨rfl, rfl⟩
      refine ⟨.int (0 + (i : Int)), rfl, .int mo, rfl, _, _, rfl, rfl, _, rfl, ite2 (fun c => ?_) (fun c => ?_)⟩
      · refine ⟨.ref p, rfl, .int hi, rfl, .int hi, rfl, 4, hi, rfl, line1000 (by show 2 ≤ 1000; decide), fun l4 nl4 => ?_⟩
        have hlp4 := hP3.ne nl4
        refine ⟨.ref p, rfl, p, 2, rfl, hP3.new nl4, by decide, by decide, fun d5 H5 k5 hP5 d50 d51 => ?_⟩
        have hm : ∃ m : Int, atI [V.int hi, V.int (if hi < 4 then hi else 4)] d5 = some (.int m) ∧ 1 ≤ m ∧ m ≤ 60 := by
          have : d5 = 0 ∨ d5 = 1 := by omega
          rcases this with rfl | rfl
          · exact ⟨hi, atI_nat (j := 0) rfl, hi1, hi60⟩
          · refine ⟨_, atI_nat (j := 1) rfl, ?_, ?_⟩
            · split <;> omega
            · split <;> omega
        obtain ⟨m, hm, m1, m60⟩ := hm
        refine ⟨l4, _, d5, .int m, rfl, rfl, SqL.of (k5 l4 _ hlp4 upd_same), hm, p, m, rfl, hP5, by omega, by omega, fun d6 H6 k6 hP6 d60 d61 => ?_⟩
        have k36 : Kp p H3' H6 := (Kp.new nl4).trans (k5.trans k6)
        refine ⟨1, d6, rfl, rfl, .ref a, rfl, .ref p, rfl, .ref n, rfl, p, n, nms B, rfl, hP6, k36 n _ hnp hn3, by rw [nms_len]; omega, fun z hz => ?_, fun z H7 nz fz hn7 kp7 hP7 => ?_⟩
        · obtain ⟨r, hr', e⟩ := List.mem_map.mp hz
          rw [← e]; exact (okB r hr').1
        have ha7 := kp7 a _ hap han (k36 a _ hap ha3)
        have hb7 := kp7 b _ hbp hbn (k36 b _ hbp hb3)
        refine ⟨a, _, rfl, DPut.k (k := Sum.inr z) ha7 (by rw [bk_len]; exact small1000 (by omega)), ?_⟩
        refine ⟨B ++ [(z, 1 + d6)], _, _, rfl, ?_, ?_, ?_, ?_, ?_, ?_, ?_, ?_⟩
        · rw [upd_same, putK_bk fz]
        · rw [upd_ne (Ne.symm hab)]; exact hb7
        · rw [upd_ne (Ne.symm han), nms_append]; exact hn7
        · rw [nms_append]
          exact List.nodup_append.mpr ⟨ndB, by simp [nms], fun x hx1 y hy1 e => by
            have e2 : y = z := by simpa [nms] using hy1
            exact fz (by rw [← e2, ← e]; exact hx1)⟩
        · rw [List.length_append, lB]; rfl
        · intro r hr'
          rcases List.mem_append.mp hr' with h | h
          · exact okB r h
          · have : r = (z, 1 + d6) := by simpa using h
            subst this
            exact ⟨nz, by show 1 ≤ 1 + d6; omega, by show 1 + d6 ≤ 60; omega⟩
        · intro c o nc e
          have nca : c ≠ a := ne_of_none e na
          have ncn : c ≠ n := ne_of_none e nnH
          rw [upd_ne nca]
          exact kp7 c o nc ncn (k36 c o nc (kp c o nc e))
        · exact hP7.put hap
      · exact absurd (decide_eq_true (by omega)) c
    rintro σ H3 ⟨B, y6, y7, rfl, ha3, hb3, hn3, ndB, lB, okB, kp3, hP3⟩
    have lN : (nms B).length ≤ 12 := by rw [nms_len]; omega
    have wf0 : Wf Nm B [] := ⟨ndB, by omega, okB, List.nodup_nil, Nat.zero_le _, fun r h => absurd h List.not_mem_nil⟩
    have fit0 : Fit B [] := fun r hr' => by
      have := (okB r hr').2.1
      exact ⟨by show (0 : Int) ≤ r.2; omega, by show (0 : Int) ≤ r.2; omega⟩
    -- pipes
    refine ⟨.ref n, rfl, n, rfl, ⟨_, SqL.of hn3⟩, ?_⟩
    refine for_it (walk_list (xs := (nms B).map V.str)) (fun i σ H4 => ∃ (Pp : Pi) (y8 y9 y10 : Option V), σ = [some (.ref p), some (.int mo), some (.int hi), some (.ref a), some (.ref b), some (.ref n), y6, y7, y8, y9, y10, none, none, none] ∧ H4 a = some (.dK (bk B)) ∧ H4 b = some (.dT (pt Pp)) ∧ H4 n = some (.lst ((nms B).map V.str)) ∧
        Wf Nm B Pp ∧ Fit B Pp ∧ (∀ r ∈ Pp, r.1.1 ∈ (nms B).take i) ∧ Pp.length ≤ 12 * i ∧ Kp p H H4 ∧ PotAt H4 p)
      ⟨[], none, none, none, rfl, ha3, hb3, hn3, wf0, fit0, fun r h => absurd h List.not_mem_nil, Nat.zero_le _, kp3, hP3⟩ (fun i σ H4 _ ⟨_, _, _, _, _, _, _, h, _⟩ => SqL.of h) ?_ ?_
    · rintro i v σ H4 H4' hi4 ⟨Pp, y8, y9, y10, rfl, ha4, hb4, hn4, wf4, fit4, old4, len4, kp4, hP4⟩ ⟨rfl, hv⟩
      obtain ⟨x, rfl, hx⟩ := nms_at hv
      have mx : x ∈ nms B := List.mem_of_getElem? hx
      rw [List.length_map] at hi4
      refine ⟨.ref n, rfl, n, rfl, ⟨_, SqL.of hn4⟩, ?_⟩
      refine for_it (walk_list (xs := (nms B).map V.str)) (fun j σ H5 => ∃ (Pp : Pi) (y9 y10 : Option V), σ = [some (.ref p), some (.int mo), some (.int hi), some (.ref a), some (.ref b), some (.ref n), y6, y7, some (.str x), y9, y10, none, none, none] ∧ H5 a = some (.dK (bk B)) ∧ H5 b = some (.dT (pt Pp)) ∧ H5 n = some (.lst ((nms B).map V.str)) ∧
          Wf Nm B Pp ∧ Fit B Pp ∧ (∀ r ∈ Pp, r.1.1 ∈ (nms B).take i ∨ (r.1.1 = x ∧ r.1.2 ∈ (nms B).take j)) ∧ Pp.length ≤ 12 * i + j ∧ Kp p H H5 ∧ PotAt H5 p)
        ⟨Pp, y9, y10, rfl, ha4, hb4, hn4, wf4, fit4, fun r h => .inl (old4 r h), by omega, kp4, hP4⟩ (fun i σ H4 _ ⟨_, _, _, _, _, _, h, _⟩ => SqL.of h) ?_ ?_
      · clear wf4 fit4 old4 len4 kp4 hP4 ha4 hb4 Pp
        rintro j v σ H5 H5' hj5 ⟨Pp, y9, y10, rfl, ha5, hb5, hn5, wf5, fit5, old5, len5, kp5, hP5⟩ ⟨rfl, hv⟩
        obtain ⟨y, rfl, hy⟩ := nms_at hv
        have my : y ∈ nms B := List.mem_of_getElem? hy
        rw [List.length_map] at hj5
        have tkj : (nms B).take (j + 1) = (nms B).take j ++ [y] := by rw [List.take_add_one, hy]; rfl
        have up : ∀ r ∈ Pp, r.1.1 ∈ (nms B).take i ∨ (r.1.1 = x ∧ r.1.2 ∈ (nms B).take (j + 1)) := fun r h => (old5 r h).imp id fun ⟨h1, h2⟩ => ⟨h1, by rw [tkj]; exact List.mem_append_left _ h2⟩
        refine ⟨.str x, rfl, .str y, rfl, rfl, _, rfl, ?_⟩
        rw [decStr]
        refine ite2 (fun c => ?_) (fun c => ?_)
        · refine ⟨.int 0, rfl, 0, 0, rfl, rfl, _, rfl, iteF (iteF ?_)⟩
          exact ⟨Pp, _, _, rfl, ha5, hb5, hn5, wf5, fit5, up, by omega, kp5, hP5⟩
        · have nxy : x ≠ y := fun e => c (decide_eq_true e)
          obtain ⟨cx, gx⟩ := getB_some mx
          obtain ⟨cy, gy⟩ := getB_some my
          refine ⟨.ref a, rfl, .ref b, rfl, .str x, rfl, .str y, rfl, a, b, B, Pp, x, y, cx, cy, rfl, ha5, hb5, wf5.np, wf5.lp, gx, gy, fun H6 s6 => ?_⟩
          obtain ⟨rm, hrm⟩ : ∃ rm, rm = if cy - inW Pp y < cx - outW Pp x then cy - inW Pp y else cx - outW Pp x := ⟨_, rfl⟩
          rw [← hrm]
          have r1 : rm ≤ cx - outW Pp x := by rw [hrm]; split <;> omega
          have r2 : rm ≤ cy - inW Pp y := by rw [hrm]; split <;> omega
          have ha6 := s6 a _ ha5
          have hb6 := s6 b _ hb5
          have hn6 := s6 n _ hn5
          have kp6 : Kp p H H6 := kp5.trans (Kp.of_same s6)
          have hP6 := hP5.same s6
          refine ⟨.int rm, rfl, rm, 0, rfl, rfl, _, rfl, ite2 (fun c1 => ?_) (fun c1 => ?_)⟩
          · have rpos : 0 < rm := of_decide_eq_true c1
            have cx60 := (wf5.rb _ (getB_mem gx)).2.2
            have out0 : 0 ≤ outW Pp x := sumOf_nonneg fun r hr' => by have := (wf5.rp r hr').2.2.2.1; omega
            have rm60 : rm ≤ 60 := by
              have cx60' : cx ≤ 60 := cx60
              omega
            refine ⟨.ref p, rfl, p, 3, rfl, hP6, by decide, by decide, fun d7 H7 k7 hP7 d70 d71 => ?_⟩
            refine ⟨_, _, rfl, rfl, _, rfl, ite2 (fun c2 => ?_) (fun c2 => ?_)⟩
            · refine ⟨.ref p, rfl, .int rm, rfl, p, rm, rfl, hP7, rpos, by omega, fun d8 H8 k8 hP8 d80 d81 => ?_⟩
              refine ⟨1, d8, rfl, rfl, .int rm, rfl, line1000 (by show 3 ≤ 1000; decide), fun l8 nl8 => ?_⟩
              have hlp8 := hP8.ne nl8
              refine ⟨.ref p, rfl, p, 3, rfl, hP8.new nl8, by decide, by decide, fun d9 H9 k9 hP9 d90 d91 => ?_⟩
              have hm : ∃ m : Int, atI [V.int (1 + d8), V.int rm, V.int 1] d9 = some (.int m) ∧ 1 ≤ m ∧ m ≤ rm := by
                have : d9 = 0 ∨ d9 = 1 ∨ d9 = 2 := by omega
                rcases this with rfl | rfl | rfl
                · exact ⟨1 + d8, atI_nat (j := 0) rfl, by omega, by omega⟩
                · exact ⟨rm, atI_nat (j := 1) rfl, by omega, by omega⟩
                · exact ⟨1, atI_nat (j := 2) rfl, by omega, by omega⟩
              obtain ⟨m, hm, m1, m2⟩ := hm
              refine ⟨l8, _, d9, .int m, rfl, rfl, SqL.of (k9 l8 _ hlp8 upd_same), hm, ?_⟩
              have k69 : Kp p H6 H9 := k7.trans (k8.trans ((Kp.new nl8).trans k9))
              have hb9 := k69 b _ hbp hb6
              refine ⟨.ref b, rfl, .str x, rfl, .str y, rfl, line1000 (by show 2 ≤ 1000; decide), fun t nt => ?_⟩
              have s9 : Same H9 (upd H9 t (.tup [.str x, .str y])) := same_new nt
              have fr : (x, y) ∉ Pp.map Prod.fst := fun hm' => by
                obtain ⟨r, hr', e⟩ := List.mem_map.mp hm'
                have e1 : r.1 = (x, y) := e
                rcases old5 r hr' with h | ⟨_, h⟩
                · rw [e1] at h
                  exact take_nd ndB hx h
                · rw [e1] at h
                  exact take_nd ndB hy h
              refine ⟨b, _, rfl, DPut.t (k := Rl.pk (x, y)) (s9 b _ hb9) upd_same (by rw [pt_len]; exact small1000 (by omega)), ?_⟩
              refine ⟨Pp ++ [((x, y), m)], _, _, rfl, ?_, ?_, ?_, wf_add wf5 mx my nxy m1 (by omega) fr (by omega), fit_add wf5 fit5 gx gy (by omega) (by omega) m1, ?_, ?_, ?_, ?_⟩
              · rw [upd_ne hab]; exact s9 a _ (k69 a _ hap ha6)
              · rw [upd_same, putK_pt fr]
              · rw [upd_ne (Ne.symm hbn)]; exact s9 n _ (k69 n _ hnp hn6)
              · intro r hr'
                rcases List.mem_append.mp hr' with h | h
                · exact up r h
                · have : r = ((x, y), m) := by simpa using h
                  subst this
                  exact .inr ⟨rfl, by rw [tkj]; exact List.mem_append_right _ (List.mem_singleton.mpr rfl)⟩
              · rw [List.length_append]
                show Pp.length + 1 ≤ _
                omega
              · intro c' o nc e
                have ncb : c' ≠ b := ne_of_none e nbH
                rw [upd_ne ncb]
                exact s9 c' o (k69 c' o nc (kp6 c' o nc e))
              · exact (hP9.same s9).put hbp
            · exact ⟨Pp, _, _, rfl, k7 a _ hap ha6, k7 b _ hbp hb6, k7 n _ hnp hn6, wf5, fit5, up, by omega, kp6.trans k7, hP7⟩
          · exact iteF ⟨Pp, _, _, rfl, ha6, hb6, hn6, wf5, fit5, up, by omega, kp6, hP6⟩
      · rintro σ H5 ⟨Pp, y9, y10, rfl, ha5, hb5, hn5, wf5, fit5, old5, len5, kp5, hP5⟩
        rw [List.length_map] at len5
        refine ⟨Pp, _, _, _, rfl, ha5, hb5, hn5, wf5, fit5, fun r hr' => ?_, by omega, kp5, hP5⟩
        rw [List.take_add_one, hx]
        rcases old5 r hr' with h | ⟨h, _⟩
        · exact List.mem_append_left _ h
        · rw [h]; exact List.mem_append_right _ (List.mem_singleton.mpr rfl)
    rintro σ H4 ⟨Pp, y8, y9, y10, rfl, ha4, hb4, hn4, wf4, fit4, old4, len4, kp4, hP4⟩
    clear old4 len4
    -- ways out
    refine ⟨.ref n, rfl, n, _, rfl, .inl (SqL.of hn4), _, rfl, by rw [List.length_map]; omega, by rw [List.length_map]; omega, ?_⟩
    refine for_it walk_range (fun i σ H5 => ∃ (Pp : Pi) (y8 y11 y12 : Option V), σ = [some (.ref p), some (.int mo), some (.int hi), some (.ref a), some (.ref b), some (.ref n), y6, y7, y8, y9, y10, y11, y12, none] ∧ H5 a = some (.dK (bk B)) ∧ H5 b = some (.dT (pt Pp)) ∧
        Wf Nm B Pp ∧ Fit B Pp ∧ Few B Pp (B.length - i) ∧ Kp p H H5 ∧ PotAt H5 p)
      ⟨Pp, y8, none, none, rfl, ha4, hb4, wf4, fit4, few_all, kp4, hP4⟩ (fun _ _ _ _ _ => trivial) ?_ ?_
    · clear wf4 fit4 kp4 hP4 ha4 hb4 Pp
      rintro i x σ H5 H5' hi5 ⟨Pp, y8, y11, y12, rfl, ha5, hb5, wf5, fit5, few5, kp5, hP5⟩ ⟨rfl, rfl⟩
      have hi5' : i < B.length := by
        rw [List.length_map, nms_len] at hi5
        omega
      refine ⟨.ref a, rfl, .ref b, rfl, a, b, B, Pp, rfl, ha5, hb5, wf5, fit5, fun r L H6 s6 nr hr6 ndL memL => ?_⟩
      have nL : ∀ z ∈ L, Sm 25 z := fun z hz => by
        obtain ⟨u, hu', e⟩ := List.mem_map.mp ((memL z).mp hz).1
        rw [← (show u.1 = z from e)]
        exact (wf5.rb u hu').1.sm.mono (by decide)
      refine ⟨.ref r, rfl, Nat.zero_le _, fun e ne => ?_⟩
      have s7 : Same H6 (upd H6 e (.lst [])) := same_new ne
      have s57 := s6.trans s7
      obtain ⟨H7, hH7⟩ : ∃ H7, H7 = upd H6 e (.lst []) := ⟨_, rfl⟩
      refine ne_nil (s7 r _ hr6) upd_same nL ?_
      rw [← hH7] at s7 s57 ⊢
      have hP7 := hP5.same s57
      have hrp : r ≠ p := hP5.ne nr
      refine ⟨_, rfl, ite2 (fun c => ?_) (fun c => ?_)⟩
      · have hL0 : 0 < L.length := List.length_pos_iff.mpr fun z => by subst z; exact absurd c (by decide)
        have lL : L.length ≤ 12 := by
          have := len_le_of_sub ndL (m := nms B) fun z hz => ((memL z).mp hz).1
          omega
        refine ⟨.ref r, rfl, .ref p, rfl, .ref r, rfl, r, _, rfl, .inl (SqL.of (s7 r _ hr6)), p, _, rfl, hP7, by rw [List.length_map]; omega, by rw [List.length_map]; omega, fun d H8 k8 hP8 d0 d1 => ?_⟩
        rw [List.length_map] at d1
        obtain ⟨x, hx, mx⟩ := str_at d0 d1
        obtain ⟨mxB, cx⟩ := (memL x).mp mx
        refine ⟨r, _, d, .str x, rfl, rfl, SqL.of (k8 r _ hrp (s7 r _ hr6)), hx, ?_⟩
        have ha8 := k8 a _ hap (s57 a _ ha5)
        have hb8 := k8 b _ hbp (s57 b _ hb5)
        refine ⟨.ref b, rfl, .inr (.inr (.inl ⟨rfl, .inr ⟨_, hb8⟩⟩)), .ref b, rfl, b, pt Pp, Pp.map Prod.fst, rfl, .inl hb8, ?_, ?_, fun qs e8 pm _ hq ne8 => ?_⟩
        · unfold pt
          rw [List.map_map, List.map_map]; rfl
        · rw [List.length_map]; have := wf5.lp; omega
        have lq : qs.length ≤ 900 := by
          have h1 := pm.length_eq
          rw [List.length_map, List.length_map] at h1
          have := wf5.lp
          omega
        have s9 : Same H8 (upd H8 e8 (.lst (qs.map fun q => V.ref q.1))) := same_new ne8
        refine ⟨e8, rfl, ⟨_, SqL.of upd_same⟩, fun D nD => ?_⟩
        refine pair_lc (K := K) (z := x) lq upd_same nD (fun q hq' => s9 _ _ (hq q hq')) (fun _ => rfl) (fun _ => rfl) (fun _ => rfl) fun H9 hD9 sm9 => ?_
        have s89 := s9.trans sm9
        obtain ⟨y, v, hpipe⟩ := closed_pipe wf5 mxB cx
        cases hf : qs.filter fun q => decide (q.2.1 = x) with
        | nil =>
          have hm : (x, y) ∈ qs.map (·.2) := pm.mem_iff.mpr (List.mem_map.mpr ⟨_, hpipe, rfl⟩)
          obtain ⟨q0, hq0, e0⟩ := List.mem_map.mp hm
          have : q0 ∈ qs.filter fun q => decide (q.2.1 = x) := List.mem_filter.mpr ⟨hq0, decide_eq_true (by rw [e0])⟩
          rw [hf] at this
          exact absurd this List.not_mem_nil
        | cons q0 rest =>
          rw [hf] at hD9
          have hq0 : q0 ∈ qs.filter fun q => decide (q.2.1 = x) := by rw [hf]; exact List.mem_cons_self
          obtain ⟨m1, m2⟩ := List.mem_filter.mp hq0
          have e1 : q0.2.1 = x := of_decide_eq_true m2
          have hm : q0.2 ∈ Pp.map Prod.fst := pm.mem_iff.mp (List.mem_map.mpr ⟨q0, m1, rfl⟩)
          obtain ⟨pp, hpp, epp⟩ := List.mem_map.mp hm
          have epp' : pp.1 = q0.2 := epp
          have hpq : ((x, q0.2.2), pp.2) ∈ Pp := by
            have : pp = ((x, q0.2.2), pp.2) := by
              rw [← e1]
              show pp = (q0.2, pp.2)
              rw [← epp']
            rw [← this]; exact hpp
          have hT := s89 _ _ (hq q0 m1)
          rw [e1] at hT
          refine ⟨D, _, 0, .ref q0.1, rfl, rfl, SqL.of hD9, atI_nat (j := 0) rfl, b, pt Pp, Rl.pk (x, q0.2.2), q0.1, .int pp.2, rfl, rfl, s89 b _ hb8, hT, ?_, ?_⟩
          · rw [valV_pt, getP_of_mem wf5.np hpq]; rfl
          · rw [drop_pt]
            refine ⟨less Pp (x, q0.2.2), _, _, _, rfl, ?_, upd_same, wf_less wf5 _, fit_less wf5 fit5 _, ?_, ?_, ?_⟩
            · rw [upd_ne hab]; exact s89 a _ ha8
            · have : B.length - i = (B.length - (i + 1)) + 1 := by omega
              rw [this] at few5
              exact few_less wf5 fit5 hpq cx few5
            · intro c' o nc e'
              have ncb : c' ≠ b := ne_of_none e' nbH
              rw [upd_ne ncb]
              exact s89 c' o (k8 c' o nc (s57 c' o (kp5 c' o nc e')))
            · exact (hP8.same s89).put hbp
      · have hL : L = [] := by
          cases L with
          | nil => rfl
          | cons x y => exact absurd rfl c
        subst hL
        refine ⟨Pp, _, _, _, rfl, s57 a _ ha5, s57 b _ hb5, wf5, fit5, few_none (fun x hx => ?_) _, kp5.trans (Kp.of_same s57), hP7⟩
        by_cases o : Opn B Pp x
        · exact o
        · exact absurd ((memL x).mpr ⟨hx, o⟩) List.not_mem_nil
    · rintro σ H5 ⟨Pp, y8, y11, y12, rfl, ha5, hb5, wf5, fit5, few5, kp5, hP5⟩
      have e0 : B.length - (((((nms B).map V.str).length : Nat) : Int)).toNat = 0 := by
        rw [List.length_map, nms_len]; omega
      rw [e0] at few5
      refine ⟨.ref a, rfl, .ref b, rfl, line1000 (by show 2 ≤ 1000; decide), fun t nt => ?_⟩
      have st : Same H5 (upd H5 t (.tup [.ref a, .ref b])) := same_new nt
      have ntH : H t = none := by
        cases e : H t with
        | none => rfl
        | some o =>
          have htp : t ≠ p := hP5.ne nt
          have := kp5 t o htp e
          rw [nt] at this; cases this
      exact q t a b B Pp _ (kp5.trans (Kp.of_same st)) (hP5.same st) ntH na nbH upd_same (st a _ ha5) (st b _ hb5) ⟨wf5, fit5, few_zero few5⟩
end
end Nl
end
section
set_option maxHeartbeats 2000000
namespace Rl
open PySem PySem.W PySem.Calls PyProof.Rows PyProof.V PySem.Spec
section
variable {K : Type} [DecidableEq K] {prog : Program} {w : World} {knd : HeapKind prog w K} {A : Around} {E : Value → Shared → Prop} {s : Shared}
/-- two dicts with tuples as keys, all of the one found in the other -/
theorem pairsH {nm : String} {c d : Addr} {xs ys : List (K × Addr × Value)} {Q : Bool → Shared → Prop} (hc : (c == sysModules) = false) (hd : (d == sysModules) = false) (dc : s.heap.DictOfH knd c xs) (dd : s.heap.DictOfH knd d ys) (hu : knd.room A)
    (hl : xs.length = ys.length) (hits : ∀ x ∈ xs, ∃ (j : Nat) (p : Addr × Value), ys[j]? = some (x.1, p) ∧ SeqAt.EqAt A s x.2.2 p.2 true) (h : Q true s) : wpAny (model prog w) A (Builtin.Dict.samePairs nm c d) Q E s := by
  obtain ⟨o1, e1, n1, g1, _, t1, m1, i1, u1⟩ := dc
  obtain ⟨o2, e2, n2, g2, _, t2, m2, i2, u2⟩ := dd
  have z1 : e1.size = xs.length := size_of_entries m1
  have z2 : e2.size = ys.length := size_of_entries m2
  unfold Builtin.Dict.samePairs Builtin.Dict.showsAll
  rw [if_neg (by rw [hc]; exact Bool.false_ne_true), if_neg (by rw [hd]; exact Bool.false_ne_true)]
  refine wpAny_bind (wpAny_pure (wpAny_bind (wpAny_pure (wpAny_bind (wpAny_dictEntries g1 t1 ?_)))))
  dsimp only
  refine wpAny_bind (wpAny_dictEntries g2 t2 ?_)
  have z12 : e1.size = e2.size := by omega
  rw [if_neg (by rw [z12]; simp)]
  refine wpAny_bind (wpAny_dictEpoch g1 t1 (wpAny_bind ?_))
  rw [Std.Legacy.Range.forIn_eq_forIn_range']
  simp only [Std.Legacy.Range.size, Nat.sub_zero, Nat.add_sub_cancel, Nat.div_one]
  refine wpAny_forIn_list _ (fun more q t => t = s ∧ q = (none, ()) ∧ ∃ i, more = List.range' i (e1.size - i) ∧ i ≤ e1.size) _ ?_ ?_ _ _ ⟨rfl, rfl, 0, by simp, Nat.zero_le _⟩
  · rintro v more q t ⟨rfl, rfl, i, hr, hi⟩
    have lt : i < e1.size := by
      rcases Nat.lt_or_ge i e1.size with z | z
      · exact z
      · rw [Nat.sub_eq_zero_of_le z] at hr; simp at hr
    obtain ⟨rfl, hm⟩ : v = i ∧ more = List.range' (i + 1) (e1.size - (i + 1)) := by
      rw [show e1.size - i = (e1.size - (i + 1)) + 1 by omega, List.range'_succ] at hr
      injection hr with a1 a2
      exact ⟨a1, a2⟩
    have lx : v < xs.length := by omega
    have hx : xs[v]? = some xs[v] := List.getElem?_eq_getElem lx
    have he : e1[v]? = some (entryOfKey knd xs[v]) := by rw [entry_at m1 v, hx]; rfl
    obtain ⟨j, p, hj, heq⟩ := hits xs[v] (List.getElem_mem lx)
    refine wpAny_bind (wpAny_dictEntries g1 t1 ?_)
    rw [he]
    show wpAny _ _ (holding [Value.ref xs[v].2.1, xs[v].2.2] _ >>= _) _ _ _
    refine wpAny_bind (wpAny_holding (wpAny_bind (wpAny_dictFind_heap hu (i1 _ (List.getElem_mem lx)) g2 t2 m2 i2 u2 (fun no => absurd hj (no j p)) fun j' p' hj' => ?_)))
    have ej : j' = j := idxH_unique u2 hj' hj
    subst ej
    rw [hj] at hj'
    have ep : p = p' := congrArg Prod.snd (Option.some.inj hj')
    subst ep
    refine wpAny_bind (wpAny_dictEntries g2 t2 ?_)
    rw [entry_at m2 j', hj]
    refine wpAny_holding (heq prog w _ _ ?_)
    show wpAny _ _ (if (!true) = true then _ else _) _ _ _
    rw [if_neg (by decide)]
    refine wpAny_bind (wpAny_dictEpoch g1 t1 ?_)
    rw [if_neg (by simp)]
    exact wpAny_pure ⟨rfl, rfl, v + 1, hm, lt⟩
  · rintro q t ⟨rfl, rfl, i, hr, hi⟩
    exact wpAny_pure h
/-- == of such two -/
theorem eqH {c d : Addr} {xs ys : List (K × Addr × Value)} {Q : Value → Shared → Prop} (hc : (c == sysModules) = false) (hd : (d == sysModules) = false) (dc : s.heap.DictOfH knd c xs) (dd : s.heap.DictOfH knd d ys) (hu : knd.room A.in1) (hv : A.units < cLine)
    (hl : xs.length = ys.length) (hits : ∀ x ∈ xs, ∃ (j : Nat) (p : Addr × Value), ys[j]? = some (x.1, p) ∧ SeqAt.EqAt A.in1 s x.2.2 p.2 true) (h : Q (.bool true) s) : wpAny (model prog w) A (compareOp .Eq (.ref c) (.ref d)) Q E s := by
  refine wpAny_richCompare_same_room (op := .Eq) dc.typeIs dd.typeIs PySem.F.slot_dict_eq (wpAny_call_entry PySem.F.slot_dict_eq dc.typeIs PySem.F.entry_dict_eq ?_ (PySem.F.args_dict_eq_2 _ _)) hv
  show wpAny _ _ (Builtin.Dict.dictSlotArgs "__eq__" ⟨[.ref c, .ref d], []⟩ >>= _) _ _ s
  refine wpAny_bind ?_
  unfold Builtin.Dict.dictSlotArgs
  refine wpAny_bind (wpAny_notOrdered_dict dc.typeIs ?_)
  show wpAny _ _ (pure (Value.ref c, Value.ref d)) _ _ s
  refine wpAny_pure (wpAny_bind (wpAny_isInstance (T := "dict") dd.typeIs PySem.F.sub_dict_dict ?_))
  simp only [Bool.not_true, Bool.false_eq_true, if_false]
  refine wpAny_bind (wpAny_pure (wpAny_bind (wpAny_pure (wpAny_bind (pairsH hc hd dc dd hu hl hits ?_)))))
  refine wpAny_pure ⟨_, rfl, ?_, ?_⟩
  · exact fun z => nomatch z
  · simpa using h
end
end Rl
namespace Rl
open PySem PySem.Spec PyProof.Rows L2
section
variable {X : Cx}
def rEqDT : R2 := fun x y H Q => ∃ (c d : Addr) (ks ls : List (List L2.Key × V)), x = .ref c ∧ y = .ref d ∧ H c = some (.dT ks) ∧ H d = some (.dT ls) ∧ ks.length = ls.length ∧ (∀ p ∈ ks, valV ls p.1 = some p.2 ∧ flatB p.2 = true) ∧ Q (.bl true) H
theorem paired_mem {α β : Type} {R : α → β → Prop} : ∀ {l : List α} {m : List β}, Paired R l m → ∀ y ∈ m, ∃ x ∈ l, R x y
  | _, _, .nil, y, h => (List.not_mem_nil h).elim
  | _, _, .cons a t, y, h => by
    rcases List.mem_cons.mp h with rfl | h
    · exact ⟨_, List.mem_cons_self, a⟩
    · obtain ⟨x, hx, r⟩ := paired_mem t y h
      exact ⟨x, List.mem_cons_of_mem _ hx, r⟩
theorem op_eq_dictT (hu : X.A.units + 1 < cLine) : OpR X (compareOp .Eq) rEqDT := by
  intro pins s σ H x y v u Q I rx ry h
  obtain ⟨c, d, ks, ls, rfl, rfl, ec, ed, hl, hp, q⟩ := h
  obtain rfl : v = Value.ref c := rx
  obtain rfl : u = Value.ref d := ry
  obtain ⟨_, yc, xs, rc, dc⟩ := dt_of I.hok ec
  obtain ⟨_, yd, ys, rd, dd⟩ := dt_of I.hok ed
  refine eqH (knd := tupleKind (mixKind X.prog X.w)) yc yd dc dd (tupleKind_room_in1 hu) (by omega) (by rw [← Paired.length rc, ← Paired.length rd]; exact hl) (fun e he => ?_) (fin_bl I q rfl)
  obtain ⟨p, mp, r1, r2, r3⟩ := paired_mem rc e he
  obtain ⟨hv, hf⟩ := hp p mp
  have rv := rd.val p.1
  rw [hv] at rv
  cases ea : atKey ys p.1 with
  | none => rw [ea] at rv; exact (show False from rv).elim
  | some t =>
    rw [ea] at rv
    have rt : RelV p.2 t.2 := rv
    obtain ⟨o, es, ep, _, _, _, _, _, nd⟩ := id dd
    have hm : ∃ j : Nat, ys[j]? = some (p.1, t) := by
      unfold atKey at ea
      cases ef : ys.find? fun z => decide (z.1 = p.1) with
      | none => simp [ef] at ea
      | some z =>
        have hz := List.mem_of_find?_eq_some ef
        have hz1 : z.1 = p.1 := by simpa using List.find?_some ef
        obtain ⟨j, hj, ej⟩ := List.mem_iff_getElem.mp hz
        refine ⟨j, ?_⟩
        rw [List.getElem?_eq_getElem hj, ej]
        have : z.2 = t := by simpa [ef] using ea
        rw [← this, ← hz1]
    obtain ⟨j, hj⟩ := hm
    exact ⟨j, t, by rw [← r1]; exact hj, eqAt_same r3 rt hf⟩
end
end Rl
end
section
set_option maxHeartbeats 2000000
namespace Nl
open PySem PySem.Spec PyProof.Rows L2 Nt
section
variable {P : Program} {w : World} {K : PySem.W.Frag} {mg : Str → Option Value} {base : Heap}
/-- two nets alike -/
def NetsEq (C : Addr) (n n' : Addr) (H : Hp) : Prop := ∃ (B : Br) (Pp : Pi) (B2 : Br) (P2 : Pi), NetAt C H n B Pp ∧ NetAt C H n' B2 P2 ∧ B.Perm B2 ∧ Pp.Perm P2 ∧ (nms B).Nodup ∧ (Pp.map Prod.fst).Nodup
theorem bk_in {B : Br} {p : Key × V} (h : p ∈ bk B) : ∃ q ∈ B, p = (Sum.inr q.1, V.int q.2) := by
  obtain ⟨q, hq, e⟩ := List.mem_map.mp h
  exact ⟨q, hq, e.symm⟩
theorem pt_in {S : Pi} {p : List Key × V} (h : p ∈ pt S) : ∃ q ∈ S, p = (Rl.pk q.1, V.int q.2) := by
  obtain ⟨q, hq, e⟩ := List.mem_map.mp h
  exact ⟨q, hq, e.symm⟩
theorem scNEq : FnScope ["self", "other"] ["self", "other"] (defScope mNet_eq) := ⟨rfl, rfl, rfl, by decide +kernel, rfl, by decide +kernel, by decide +kernel⟩
theorem ok_nEq {f C : Addr} {fd : FuncData} {k : Nat} (F : Fun K "__eq__" "Net.__eq__" mNet_eq f fd) (T : TxN K mg C) (IC : C8.InsC K C) (mi : mg "isinstance" = none) : FnOk P w K mg base CX0 (k + 1) f fd ["self", "other"] (spEq (NetsEq C)) := by
  refine F.ok scNEq (fun vs H Q E h => ?_) (fun cdv A outer s H vs Q E hr h => ?_)
  · obtain ⟨a, b, rfl, _⟩ := h
    rfl
  · obtain ⟨n, n', rfl, ⟨B, Pp, B2, P2, N, N', pB, pP, nb, np⟩, q⟩ := h
    refine ⟨_, pss_one (ps_ret (pe_and (pe_callB (C8.call_isC IC) (by rfl) mi (by decide +kernel) (pa_cons (pv 1) (pa_cons (pe_glob (v := .ref C) rfl T.mgC rfl) pa_nil)))
      (pe_and (pe_cmpR (op_eq_dictA (Nat.lt_of_le_of_lt (Nat.le_add_right _ 64) hr.units)) (pe_fld (pv 0) rfl) (pe_fld (pv 1) rfl) (nomark _))
      (pe_one (pe_cmpR (Rl.op_eq_dictT (hu_of hr)) (pe_fld (pv 0) rfl) (pe_fld (pv 1) rfl) (nomark _)))))), ?_⟩
    obtain ⟨dx, d1, d2, hn, h1, h2, _⟩ := N.at_
    obtain ⟨dx', d1', d2', hn', h1', h2', _⟩ := N'.at_
    have nb2 : (nms B2).Nodup := (pB.map Prod.fst).nodup_iff.mp nb
    have np2 : (P2.map Prod.fst).Nodup := (pP.map Prod.fst).nodup_iff.mp np
    refine ⟨.ref n', rfl, n', dx', _, rfl, hn', true, rfl, iteT ?_⟩
    refine ⟨.ref n, rfl, n, C, dx, _, _, rfl, hn, T.cl, T.nB, nf_b d1 d2, .ref n', rfl, n', C, dx', _, _, rfl, hn', T.cl, T.nB, nf_b d1' d2', d1, d1', _, _, rfl, rfl, h1, h1', by rw [bk_len, bk_len, pB.length_eq], fun p hp => ?_, true, rfl, iteT ?_⟩
    · obtain ⟨u, hu, rfl⟩ := bk_in hp
      exact ⟨by rw [valV_bk, getB_of_mem nb2 (show (u.1, u.2) ∈ B2 from pB.mem_iff.mp hu)]; rfl, rfl⟩
    refine ⟨.ref n, rfl, n, C, dx, _, _, rfl, hn, T.cl, T.nW, nf_w d1 d2, .ref n', rfl, n', C, dx', _, _, rfl, hn', T.cl, T.nW, nf_w d1' d2', d2.w, d2'.w, _, _, rfl, rfl, h2, h2', by rw [pt_len, pt_len, pP.length_eq], fun p hp => ?_, ?_⟩
    · obtain ⟨u, hu, rfl⟩ := pt_in hp
      exact ⟨by rw [valV_pt, getP_of_mem np2 (show (u.1, u.2) ∈ P2 from pP.mem_iff.mp hu)]; rfl, rfl⟩
    exact q H fun _ _ e => e
/-- two stands alike -/
def StandsEq (CS C : Addr) (s s' : Addr) (H : Hp) : Prop := ∃ (B : Br) (Pp : Pi) (Qp Qc Qp2 Qc2 : Br), StOf CS C H s B Pp Qp Qc ∧ StOf CS C H s' B Pp Qp2 Qc2 ∧ (∀ x ∈ nms B, val0 Qp x = val0 Qp2 x) ∧ ∀ x ∈ nms B, val0 Qc x = val0 Qc2 x
theorem scSEq : FnScope ["self", "other"] ["self", "other"] (defScope mStand_eq) := ⟨rfl, rfl, rfl, by decide +kernel, rfl, by decide +kernel, by decide +kernel⟩
theorem ok_sEq {f f1 CS C : Addr} {fd fd1 : FuncData} (F : Fun K "__eq__" "Stand.__eq__" mStand_eq f fd) (T : TxN K mg C) (TS : TxS K mg CS) (ICS : C8.InsC K CS)
    (G1 : FnOk P w K mg base CX0 1 f1 fd1 ["self", "other"] (spEq (NetsEq C))) (b1 : Binds K fd1 ["self", "other"] []) (m1 : Meth K C "__eq__" f1) (mi : mg "isinstance" = none) : FnOk P w K mg base CX0 2 f fd ["self", "other"] (spEq (StandsEq CS C)) := by
  refine F.ok scSEq (fun vs H Q E h => ?_) (fun cdv A outer s H vs Q E hr h => ?_)
  · obtain ⟨a, b, rfl, _⟩ := h
    rfl
  · obtain ⟨s, s', rfl, ⟨B, Pp, Qp, Qc, Qp2, Qc2, S, S', eP, eC⟩, q⟩ := h
    refine ⟨_, pss_one (ps_ret (pe_and (pe_callB (C8.call_isC ICS) (by rfl) mi (by decide +kernel) (pa_cons (pv 1) (pa_cons (pe_glob (v := .ref CS) rfl TS.mgC rfl) pa_nil)))
      (pe_and (pe_cmpR (op_eqG (rcG_ins (C := C) G1 m1.at_ m1.fn b1 pass0) hr) (pe_fld (pv 0) rfl) (pe_fld (pv 1) rfl) (nomark _))
      (pe_and (pe_cmpR (op_eq_dictA (Nat.lt_of_le_of_lt (Nat.le_add_right _ 64) hr.units)) (pe_fld (pv 0) rfl) (pe_fld (pv 1) rfl) (nomark _))
      (pe_one (pe_cmpR (op_eq_dictA (Nat.lt_of_le_of_lt (Nat.le_add_right _ 64) hr.units)) (pe_fld (pv 0) rfl) (pe_fld (pv 1) rfl) (nomark _))))))), ?_⟩
    obtain ⟨B1, P1, Up, Uc, SA, g1, pB, pP, so, fp, fc, v1, v2, nn⟩ := S
    obtain ⟨B2, P2, Wp, Wc, SA', g2, pB', pP', so', fp', fc', v1', v2', nn'⟩ := S'
    obtain ⟨dx, n, d1, d2, hs, N, h1, h2⟩ := SA.at_
    obtain ⟨dx', n', d1', d2', hs', N', h1', h2'⟩ := SA'.at_
    obtain ⟨dxn, e1, e2, hn, _, _⟩ := N.at_
    obtain ⟨dxn', e1', e2', hn', _, _⟩ := N'.at_
    have pm : (nms B1).Perm (nms B) := pB.map Prod.fst
    have pm' : (nms B2).Perm (nms B) := pB'.map Prod.fst
    have dicts : ∀ {U W : Br}, Full B1 U → Full B2 W → (∀ x ∈ nms B, val0 U x = val0 W x) → (bk U).length = (bk W).length ∧ ∀ p ∈ bk U, valV (bk W) p.1 = some p.2 ∧ flatB p.2 = true := fun {U W} fU fW e => by
      refine ⟨?_, fun p hp => ?_⟩
      · have a1 : (nms U).length = (nms B1).length := by rw [fU.nm]
        have a2 : (nms W).length = (nms B2).length := by rw [fW.nm]
        have a3 := pm.length_eq
        have a4 := pm'.length_eq
        rw [bk_len, bk_len, ← nms_len, ← nms_len]
        omega
      · obtain ⟨u, hu, rfl⟩ := bk_in hp
        have mu1 : u.1 ∈ nms B1 := by rw [← fU.nm]; exact List.mem_map.mpr ⟨u, hu, rfl⟩
        have mu : u.1 ∈ nms B := pm.mem_iff.mp mu1
        refine ⟨?_, rfl⟩
        rw [valV_bk, fW.get (pm'.mem_iff.mpr mu), ← e u.1 mu, val0_of_mem (by rw [fU.nm]; exact g1.wf.nb) (show (u.1, u.2) ∈ U from hu)]; rfl
    obtain ⟨l1, m1'⟩ := dicts fp fp' fun x hx => by rw [v1 x hx, v1' x hx, eP x hx]
    obtain ⟨l2, m2'⟩ := dicts fc fc' fun x hx => by rw [v2 x hx, v2' x hx, eC x hx]
    refine ⟨.ref s', rfl, s', dx', _, rfl, hs', true, rfl, iteT ?_⟩
    refine ⟨.ref s, rfl, s, CS, dx, _, _, rfl, hs, TS.cl, TS.nN, sf_n n d1 d2, .ref s', rfl, s', CS, dx', _, _, rfl, hs', TS.cl, TS.nN, sf_n n' d1' d2', ⟨n, n', dxn, dxn', _, _, rfl, rfl, hn, hn', B1, P1, B2, P2, N, N', pB.trans pB'.symm, pP.trans pP'.symm, g1.wf.nb, g1.wf.np⟩, fun H1 x1 => ⟨true, rfl, iteT ?_⟩⟩
    refine ⟨.ref s, rfl, s, CS, dx, _, _, rfl, x1 _ _ hs, TS.cl, TS.nP, sf_p n d1 d2, .ref s', rfl, s', CS, dx', _, _, rfl, x1 _ _ hs', TS.cl, TS.nP, sf_p n' d1' d2', d1, d1', _, _, rfl, rfl, x1 _ _ h1, x1 _ _ h1', l1, m1', true, rfl, iteT ?_⟩
    refine ⟨.ref s, rfl, s, CS, dx, _, _, rfl, x1 _ _ hs, TS.cl, TS.nC, sf_c n d1 d2, .ref s', rfl, s', CS, dx', _, _, rfl, x1 _ _ hs', TS.cl, TS.nC, sf_c n' d1' d2', d2, d2', _, _, rfl, rfl, x1 _ _ h2, x1 _ _ h2', l2, m2', ?_⟩
    exact q H1 x1
end
end Nl
end
section
set_option maxHeartbeats 1000000
namespace Nl
open PySem PySem.Spec PyProof.Rows L2 Nt
/-! ### sums over the ponds -/
theorem sum_add2 {α : Type} (g h : α → Int) : ∀ l : List α, (l.map fun z => g z + h z).sum = (l.map g).sum + (l.map h).sum
  | [] => rfl
  | x :: r => by
    have := sum_add2 g h r
    simp only [List.map_cons, List.sum_cons]
    omega
theorem sum_sub2 {α : Type} (g h : α → Int) : ∀ l : List α, (l.map fun z => g z - h z).sum = (l.map g).sum - (l.map h).sum
  | [] => rfl
  | x :: r => by
    have := sum_sub2 g h r
    simp only [List.map_cons, List.sum_cons]
    omega
theorem sum_zero {α : Type} {g : α → Int} : ∀ {l : List α}, (∀ x ∈ l, g x = 0) → (l.map g).sum = 0
  | [], _ => rfl
  | x :: r, h => by
    rw [List.map_cons, List.sum_cons, h x List.mem_cons_self, sum_zero fun y hy => h y (List.mem_cons_of_mem _ hy)]; rfl
theorem sum_mul {α : Type} (g : α → Int) (c : Int) : ∀ l : List α, (l.map fun z => g z * c).sum = (l.map g).sum * c
  | [] => by simp
  | x :: r => by
    simp only [List.map_cons, List.sum_cons]
    rw [sum_mul g c r, Int.add_mul]
theorem sum_one {x : Str} {c : Int} : ∀ {l : List Str}, l.Nodup → x ∈ l → (l.map fun z => if x = z then c else 0).sum = c
  | [], _, h => (List.not_mem_nil h).elim
  | y :: r, nd, h => by
    obtain ⟨h1, h2⟩ := List.nodup_cons.mp nd
    rw [List.map_cons, List.sum_cons]
    by_cases e : x = y
    · subst e
      rw [if_pos rfl, sum_zero fun z hz => if_neg fun e => h1 (by rw [e]; exact hz)]
      omega
    · rw [if_neg e, sum_one h2 ((List.mem_cons.mp h).resolve_left e)]
      omega
/-- all pairs by one end -/
theorem sum_by {l : List Str} (nd : l.Nodup) (k : (Str × Str) × Int → Str) (f : (Str × Str) × Int → Int) : ∀ {P : Pi}, (∀ p ∈ P, k p ∈ l) → (l.map fun z => ((P.filter fun p => decide (k p = z)).map f).sum).sum = (P.map f).sum
  | [], _ => sum_zero fun _ _ => rfl
  | p :: r, h => by
    have ih := sum_by nd k f (P := r) fun q hq => h q (List.mem_cons_of_mem _ hq)
    have e : (fun z => (((p :: r).filter fun p => decide (k p = z)).map f).sum) = fun z => (if k p = z then f p else 0) + ((r.filter fun p => decide (k p = z)).map f).sum := by
      funext z
      rw [List.filter_cons]
      by_cases c : k p = z
      · rw [if_pos (decide_eq_true c), if_pos c, List.map_cons, List.sum_cons]
      · rw [if_neg (by simpa using c), if_neg c]
        omega
    rw [e, sum_add2, sum_one nd (h p List.mem_cons_self), ih, List.map_cons, List.sum_cons]
theorem val0_cons (p : Str × Int) (r : Br) (z : Str) : val0 (p :: r) z = if p.1 = z then p.2 else val0 r z := by
  unfold val0 getB
  rw [List.find?_cons]
  by_cases e : p.1 = z
  · rw [decide_eq_true e, if_pos e]; rfl
  · rw [decide_eq_false e, if_neg e]
theorem val0_out {Q : Br} {z : Str} (h : z ∉ nms Q) : val0 Q z = 0 := by
  unfold val0
  rw [getB_none h]; rfl
/-- all that a table has, by the ponds -/
theorem sum_tab {l : List Str} (nd : l.Nodup) : ∀ {Q : Br}, (nms Q).Nodup → (∀ p ∈ Q, p.1 ∈ l) → (l.map (val0 Q)).sum = (Q.map (·.2)).sum
  | [], _, _ => sum_zero fun _ _ => rfl
  | p :: r, ndQ, h => by
    obtain ⟨n1, n2⟩ := List.nodup_cons.mp (show (p.1 :: nms r).Nodup from ndQ)
    have e : val0 (p :: r) = fun z => (if p.1 = z then p.2 else 0) + val0 r z := by
      funext z
      rw [val0_cons]
      by_cases c : p.1 = z
      · rw [if_pos c, if_pos c, ← c, val0_out n1]; omega
      · rw [if_neg c, if_neg c]; omega
    rw [e, sum_add2, sum_one nd (h p List.mem_cons_self), sum_tab nd n2 fun q hq => h q (List.mem_cons_of_mem _ hq), List.map_cons, List.sum_cons]
def flowIn (Pp : Pi) (Qc : Br) (z : Str) : Int := ((Pp.filter fun p => decide (p.1.2 = z)).map fun p => p.2 * val0 Qc p.1.1).sum
theorem water_flow (B : Br) (Pp : Pi) (Qp Qc : Br) (z : Str) : waterOf B Pp Qp Qc z = val0 Qp z + flowIn Pp Qc z - val0 B z * val0 Qc z := by
  unfold waterOf flowIn insOf
  rw [List.map_map]; rfl
theorem soak_nms {B : Br} {Pp : Pi} {Qc : Br} (nd : (nms B).Nodup) : soakOf B Pp Qc = ((nms B).map fun z => (val0 B z - outW Pp z) * val0 Qc z).sum := by
  unfold soakOf nms
  rw [List.map_map]
  congr 1
  refine List.map_congr_left fun p hp => ?_
  show _ = (val0 B p.1 - _) * _
  rw [val0_of_mem nd (show (p.1, p.2) ∈ B from hp)]
theorem out_flow (Pp : Pi) (Qc : Br) (z : Str) : outW Pp z * val0 Qc z = ((Pp.filter fun p => decide (p.1.1 = z)).map fun p => p.2 * val0 Qc p.1.1).sum := by
  unfold outW sumOf
  rw [← sum_mul]
  congr 1
  refine List.map_congr_left fun p hp => ?_
  have := of_decide_eq_true (List.mem_filter.mp hp).2
  rw [← this]
/-- nothing is lost -/
theorem all_waters {B : Br} {Pp : Pi} (good : Good B Pp) (Qp Qc : Br) : ((nms B).map (val0 Qp)).sum = ((nms B).map (waterOf B Pp Qp Qc)).sum + soakOf B Pp Qc := by
  have nd := good.wf.nb
  have e1 : waterOf B Pp Qp Qc = fun z => val0 Qp z + flowIn Pp Qc z - val0 B z * val0 Qc z := funext fun z => water_flow B Pp Qp Qc z
  have e2 : (fun z => (val0 B z - outW Pp z) * val0 Qc z) = fun z => val0 B z * val0 Qc z - outW Pp z * val0 Qc z := funext fun z => Int.sub_mul _ _ _
  rw [soak_nms nd, e1, e2, sum_sub2, sum_sub2, sum_add2]
  have f1 : ((nms B).map fun z => flowIn Pp Qc z).sum = (Pp.map fun p => p.2 * val0 Qc p.1.1).sum := sum_by nd (fun p => p.1.2) _ fun p hp => (good.wf.rp p hp).2.1
  have f2 : ((nms B).map fun z => outW Pp z * val0 Qc z).sum = (Pp.map fun p => p.2 * val0 Qc p.1.1).sum := by
    rw [show (fun z => outW Pp z * val0 Qc z) = fun z => ((Pp.filter fun p => decide (p.1.1 = z)).map fun p => p.2 * val0 Qc p.1.1).sum from funext fun z => out_flow Pp Qc z]
    exact sum_by nd (fun p => p.1.1) _ fun p hp => (good.wf.rp p hp).1
  rw [f1, f2]
  omega
/-! ### one pond's spills -/
def wOf (Pp : Pi) (q : Str × Str) : Int := (getP Pp q).getD 0
theorem wOf_cons (p : (Str × Str) × Int) (r : Pi) (q : Str × Str) : wOf (p :: r) q = if p.1 = q then p.2 else wOf r q := by
  unfold wOf getP
  rw [List.find?_cons]
  by_cases e : p.1 = q
  · rw [decide_eq_true e, if_pos e]; rfl
  · rw [decide_eq_false e, if_neg e]
theorem flow_more {z o : Str} {t : Int} : ∀ {P : Pi}, (P.map Prod.fst).Nodup → ((P.filter fun p => decide (p.1.2 = o)).map fun p => p.2 * if p.1.1 = z then t else 0).sum = wOf P (z, o) * t
  | [], _ => by simp [wOf, getP]
  | p :: r, nd => by
    obtain ⟨n1, n2⟩ := List.nodup_cons.mp (show (p.1 :: r.map Prod.fst).Nodup from nd)
    have ih := flow_more (z := z) (o := o) (t := t) n2
    rw [wOf_cons, List.filter_cons]
    by_cases e : p.1 = (z, o)
    · have e1 : p.1.1 = z := by rw [e]
      have e2 : p.1.2 = o := by rw [e]
      have w0 : wOf r (z, o) = 0 := by
        unfold wOf
        rw [getP_none (by rw [← e]; exact n1)]; rfl
      rw [if_pos (decide_eq_true e2), if_pos e, List.map_cons, List.sum_cons, ih, w0, if_pos e1]
      omega
    · rw [if_neg e, ← ih]
      by_cases e2 : p.1.2 = o
      · have e1 : p.1.1 ≠ z := fun h => e (Prod.ext h e2)
        rw [if_pos (decide_eq_true e2), List.map_cons, List.sum_cons, if_neg e1]
        omega
      · rw [if_neg (by simpa using e2)]
theorem water_next {B : Br} {Pp : Pi} {Qp Qc Qc2 : Br} (good : Good B Pp) {z o : Str} {t : Int} (mo : o ∈ nms B) (h : ∀ x ∈ nms B, val0 Qc2 x = val0 Qc x + if x = z then t else 0) :
    waterOf B Pp Qp Qc2 o = waterOf B Pp Qp Qc o + wOf Pp (z, o) * t - val0 B z * t * if z = o then 1 else 0 := by
  rw [water_flow, water_flow, h o mo]
  have e : flowIn Pp Qc2 o = flowIn Pp Qc o + wOf Pp (z, o) * t := by
    unfold flowIn
    rw [← flow_more good.wf.np, ← sum_add2]
    congr 1
    refine List.map_congr_left fun p hp => ?_
    rw [h p.1.1 (good.wf.rp p (List.mem_filter.mp hp).1).1, Int.mul_add]
  rw [e, Int.mul_add]
  by_cases c : o = z
  · rw [if_pos c, if_pos c.symm, c]; omega
  · rw [if_neg c, if_neg (Ne.symm c)]; omega
theorem soak_next {B : Br} {Pp : Pi} {Qc Qc2 : Br} (good : Good B Pp) {z : Str} {t : Int} (mz : z ∈ nms B) (h : ∀ x ∈ nms B, val0 Qc2 x = val0 Qc x + if x = z then t else 0) : soakOf B Pp Qc2 = soakOf B Pp Qc + (val0 B z - outW Pp z) * t := by
  rw [soak_nms good.wf.nb, soak_nms good.wf.nb]
  have e : ((nms B).map fun x => (val0 B x - outW Pp x) * val0 Qc2 x) = (nms B).map fun x => (val0 B x - outW Pp x) * val0 Qc x + if z = x then (val0 B z - outW Pp z) * t else 0 := List.map_congr_left fun x hx => by
    rw [h x hx, Int.mul_add]
    by_cases c : x = z
    · rw [if_pos c, if_pos c.symm, c]
    · rw [if_neg c, if_neg (Ne.symm c)]; omega
  rw [e, sum_add2, sum_one good.wf.nb mz]
theorem lost_next {B : Br} {Pp : Pi} {Qp Qc Qc2 : Br} (good : Good B Pp) {z : Str} {t : Int} (mz : z ∈ nms B) (h : ∀ x ∈ nms B, val0 Qc2 x = val0 Qc x + if x = z then t else 0) :
    ((nms B).map (waterOf B Pp Qp Qc)).sum - ((nms B).map (waterOf B Pp Qp Qc2)).sum = (val0 B z - outW Pp z) * t := by
  have e1 := all_waters good Qp Qc
  have e2 := all_waters good Qp Qc2
  have e3 := soak_next good mz h
  omega
end Nl
end
section
set_option maxHeartbeats 2000000
namespace Nl
open PySem PySem.Spec PyProof.Rows L2 Nt
/-! ### a stand's answers, by the dicts that the law has -/
section
variable {CS C : Addr} {H : Hp} {s : Addr} {B : Br} {Pp : Pi} {Qp Qc : Br} {z : Str} {Q : VK} {E : XK}
theorem StOf.ins (S : StOf CS C H s B Pp Qp Qc) : ∃ dx n d1 d2, H s = some (.ins CS dx (sf n d1 d2)) := by
  obtain ⟨B', P', Qp', Qc', SA, r⟩ := S
  obtain ⟨dx, n, d1, d2, hs, _⟩ := SA.at_
  exact ⟨dx, n, d1, d2, hs⟩
theorem StOf.water (S : StOf CS C H s B Pp Qp Qc) (mz : z ∈ nms B) : ∃ B' P' Qp' Qc', StandAt CS C H s B' P' Qp' Qc' ∧ Good B' P' ∧ Full B' Qp' ∧ Full B' Qc' ∧ z ∈ nms B' ∧ waterOf B' P' Qp' Qc' z = waterOf B Pp Qp Qc z := by
  obtain ⟨B', P', Qp', Qc', SA, g', pB, pP, so, fp, fc, v1, v2, nn⟩ := S
  have pm : (nms B').Perm (nms B) := pB.map Prod.fst
  exact ⟨B', P', Qp', Qc', SA, g', fp, fc, pm.mem_iff.mpr mz, water_same g' pB pP v1 v2 mz⟩
theorem StOf.waters (S : StOf CS C H s B Pp Qp Qc) : ∃ B' P' Qp' Qc', StandAt CS C H s B' P' Qp' Qc' ∧ Good B' P' ∧ Full B' Qp' ∧ Full B' Qc' ∧ (nms B').Perm (nms B) ∧ sortedS (nms B') = true ∧ mapN (nms B') (waterOf B' P' Qp' Qc') = mapN (nms B') (waterOf B Pp Qp Qc) := by
  obtain ⟨B', P', Qp', Qc', SA, g', pB, pP, so, fp, fc, v1, v2, nn⟩ := S
  have pm : (nms B').Perm (nms B) := pB.map Prod.fst
  exact ⟨B', P', Qp', Qc', SA, g', fp, fc, pm, so, List.map_congr_left fun z hz => by rw [water_same g' pB pP v1 v2 (pm.mem_iff.mp hz)]⟩
theorem StOf.counts (S : StOf CS C H s B Pp Qp Qc) : ∃ B' P' Qp' Qc', StandAt CS C H s B' P' Qp' Qc' ∧ (nms Qc').Nodup ∧ Qc'.length ≤ 12 ∧ (nms B').Perm (nms B) ∧ sortedS (nms B') = true ∧ Qc' = mapN (nms B') (val0 Qc) := by
  obtain ⟨B', P', Qp', Qc', SA, g', pB, pP, so, fp, fc, v1, v2, nn⟩ := S
  have pm : (nms B').Perm (nms B) := pB.map Prod.fst
  have nd : (nms Qc').Nodup := by rw [fc.nm]; exact g'.wf.nb
  have ln : Qc'.length ≤ 12 := by
    have : (nms Qc').length = (nms B').length := by rw [fc.nm]
    rw [nms_len, nms_len] at this
    have := g'.wf.lb
    omega
  refine ⟨B', P', Qp', Qc', SA, nd, ln, pm, so, ?_⟩
  rw [← fc.nm]
  unfold mapN nms
  rw [List.map_map]
  conv => lhs; rw [← List.map_id Qc']
  refine List.map_congr_left fun u hu => ?_
  have mu : u.1 ∈ nms B := pm.mem_iff.mp (by rw [← fc.nm]; exact List.mem_map.mpr ⟨u, hu, rfl⟩)
  show u = (u.1, val0 Qc u.1)
  rw [← v2 u.1 mu, val0_of_mem nd (show (u.1, u.2) ∈ Qc' from hu)]
end
/-! ### [E for one in dict] -/
theorem keys_lc {B : Br} {a : Addr} {H : Hp} {σ : L2.St} {te : TE} {ja jv : Nat} {Q : V → Hp → Prop} (val : Str × Int → V) (lb : B.length ≤ 200) (ha : H a = some (.dK (bk B))) (hja : σ[ja]? = some (some (.ref a)))
    (hw : ∀ z : Str, wipe ((wipe σ [jv]).set jv (some (.str z))) [jv] = wipe σ [jv])
    (ht : ∀ (p : Str × Int) (od : Obj) (H2 : Hp) (R : V → Hp → Prop), p ∈ B → Same (upd H a (.frz od (.dK (bk B)))) H2 → (∀ H3, Same H2 H3 → R (val p) H3) → te ((wipe σ [jv]).set jv (some (.str p.1))) H2 R)
    (q : ∀ D H', Same H H' → H D = none → H' D = some (.lst (B.map val)) → Q (.ref D) H') : tLockE (tLc (iKeys (tVar ja)) (gName jv) tYes te [jv]) σ H Q := by
  refine ⟨a, _, ha, trivial, fun od => ?_⟩
  refine ⟨.ref a, hja, a, od, rfl, .inl ⟨_, upd_same, fun D nD => ?_⟩⟩
  have hD0 : D ≠ a := fun e => by subst e; rw [upd_same] at nD; cases nD
  have nDH : H D = none := by rw [upd_ne hD0] at nD; exact nD
  refine lc_it (n := (bk B).length) walk_keys (fun i H1 => H1 D = some (.lst ((B.take i).map val)) ∧ Same (upd H a (.frz od (.dK (bk B)))) H1) ⟨upd_same, same_new nD⟩ (fun i H1 _ h => h.2 a _ upd_same) ?_ ?_
  · rintro i x H1 H2 hi ⟨hD, sm⟩ ⟨rfl, kk, v, hkv, rfl⟩
    obtain ⟨p, hp, rfl, rfl⟩ := bk_at hkv
    have hm : p ∈ B := List.mem_of_getElem? hp
    refine ⟨hw p.1, ht p od H2 _ hm sm fun H3 s3 => ⟨_, s3 D _ hD, ?_, ?_, ?_⟩⟩
    · rw [List.length_map, List.length_take]
      exact small1000 (by omega)
    · rw [upd_same, List.take_add_one, hp, List.map_append]; rfl
    · exact fun b o eb => by
        have nb : b ≠ D := ne_of_none eb nD
        rw [upd_ne nb]; exact s3 b o (sm b o eb)
  · rintro H1 ⟨hD, sm⟩
    obtain ⟨l1, l2⟩ := same_lock ha sm
    refine ⟨l1, q D _ l2 nDH ?_⟩
    rw [upd_ne hD0, hD, bk_len, List.take_length]
/-- what isn't that one is as it was -/
theorem same_off {H H2 : Hp} {a x : Addr} {o u : HO} (sm : Same (upd H a u) H2) (n : x ≠ a) (h : H x = some o) : H2 x = some o := sm x o (by rw [upd_ne n]; exact h)
end Nl
end
section
set_option maxHeartbeats 1000000
namespace Nl
open PySem PySem.Spec PyProof.Rows L2 Nt
section
variable {P : Program} {w : World} {K : PySem.W.Frag} {mg : Str → Option Value} {base : Heap}
theorem scLWater : FnScope ["_law_wide", "_law_joins", "_law_poured", "_law_counts", "_law_one", "_law_found", "_law_two"] ["_law_wide", "_law_joins", "_law_poured", "_law_counts", "_law_one"] (defScope sLWater) := ⟨rfl, rfl, rfl, by decide +kernel, rfl, by decide +kernel, by decide +kernel⟩
def spLWater : Sp := fun vs H Q _ => ∃ (a b c d : Addr) (B : Br) (Pp : Pi) (Qp Qc : Br) (z : Str), vs = [.ref a, .ref b, .ref c, .ref d, .str z] ∧ Rd H a (.dK (bk B)) ∧ H b = some (.dT (pt Pp)) ∧ H c = some (.dK (bk Qp)) ∧ H d = some (.dK (bk Qc)) ∧ Wf Nm B Pp ∧ z ∈ nms B ∧
  ∀ H', Same H H' → Q (.int (waterOf B Pp Qp Qc z)) H'
theorem ok_lwater {f : Addr} {fd : FuncData} {k : Nat} (F : Fun K "_law_water" "_law_water" sLWater f fd) (ms : mg "sum" = none) : FnOk P w K mg base CX0 (k + 1) f fd ["_law_wide", "_law_joins", "_law_poured", "_law_counts", "_law_one"] spLWater := by
  refine F.ok scLWater (fun vs H Q E h => ?_) (fun cdv A outer s H vs Q E hr h => ?_)
  · obtain ⟨a, b, c, d, B, Pp, Qp, Qc, z, rfl, _⟩ := h
    rfl
  · obtain ⟨a, b, c, d, B, Pp, Qp, Qc, z, rfl, hA, hB, hC, hD, wf, mz, q⟩ := h
    have hu := hu_of hr
    refine ⟨_, pss_cons (ps_set (i := 5) scLWater.nd rfl (by first | exact .inl rfl | exact .inr rfl) (pe_op op_sub (pe_dget2 hu (pv 2) (pv 4) pe_int ⟨rfl, rfl, rfl, rfl⟩) (pe_op op_mul (pe_dget hu (pv 0) (pv 4) (fun _ _ => rfl)) (pe_dget2 hu (pv 3) (pv 4) pe_int ⟨rfl, rfl, rfl, rfl⟩))))
      (pss_one (ps_ret (pe_op op_add (pv 5) (pe_callB (cr_sum rfl) (by rfl) ms (by decide +kernel) (pa_cons (pe_lock (pe_lc (own := [("_law_two", 6)]) (g := gName 6) (tt := tTest (tOp rEq (tOp (rIxT K) (tVar 6) (tC (.int 1))) (tVar 4)))
        (te := tOp (rI CMul fun i j => .int (i * j)) (tDGet (tVar 1) (tVar 6)) (tDGet2 (tVar 3) (tOp (rIxT K) (tVar 6) (tC (.int 0))) (tC (.int 0)))) rfl scLWater.nd (pi_keys (pv 1))
        (blkOk_by (N := ["_law_wide", "_law_joins", "_law_poured", "_law_counts", "_law_one", "_law_found", "_law_two"]) (sc := defScope sLWater) (by decide +kernel)) (fun _ _ _ _ _ => pg_name (i := 6) scLWater.nd rfl (Or.inl rfl))
        (fun _ _ _ _ _ => pts_one (pt_cmpR op_eq (pe_ix ix_tup (pv 6) pe_int (fun _ _ => rfl)) (pv 4) (nomark _)))
        (fun _ _ _ _ _ => pe_op op_mul (pe_dget hu (pv 1) (pv 6) (fun _ _ => rfl)) (pe_dget2 hu (pv 3) (pe_ix ix_tup (pv 6) pe_int (fun _ _ => rfl)) pe_int ⟨rfl, rfl, rfl, rfl⟩)))) pa_nil))))), ?_⟩
    obtain ⟨bz, gz⟩ := getB_some mz
    have rz := (wf.rb _ (getB_mem gz)).2
    have rz1 : 1 ≤ bz := rz.1
    have rz2 : bz ≤ 60 := rz.2
    have hdb : d ≠ b := fun e => by subst e; rw [hB] at hD; cases hD
    refine ⟨.ref c, rfl, c, rfl, .inl ⟨_, .inl hC⟩, .str z, rfl, _, .inl ⟨_, Sum.inr z, .inl hC, rfl, rfl⟩, ?_⟩
    rw [valV_bk, getD_val]
    refine ⟨.ref a, rfl, .str z, rfl, a, .int bz, rfl, .inl ⟨_, Sum.inr z, hA, rfl, by rw [valV_bk, gz]; rfl⟩, ?_⟩
    refine ⟨.ref d, rfl, d, rfl, .inl ⟨_, .inl hD⟩, .str z, rfl, _, .inl ⟨_, Sum.inr z, .inl hD, rfl, rfl⟩, ?_⟩
    rw [valV_bk, getD_val]
    refine ⟨_, _, rfl, rfl, .inl ⟨by omega, by omega⟩, _, _, rfl, rfl, ?_⟩
    refine ⟨_, rfl, ?_⟩
    refine pick_ok (K := K) (jp := 1) (jv := 6) (jn := 4) (c := 1) (z := z) (fun p => p.1.2) (fun p => .int (p.2 * val0 Qc p.1.1)) at1 wf.lp hB rfl (fun _ => rfl) (fun _ => rfl) (fun _ => rfl) (fun p q od H2 R hm sm hq r => ?_) fun D H1 s1 nD hD1 => ?_
    · have rp := (wf.rp p hm).2.2.2
      refine width_at wf.np hm sm hq rfl rfl ?_
      have hd2 := sm d _ (show (upd H b (.frz od (.dT (pt Pp)))) d = some (.dK (bk Qc)) by rw [upd_ne hdb]; exact hD)
      refine ⟨.ref d, rfl, d, rfl, .inl ⟨_, .inl hd2⟩, .ref q, rfl, q, _, 0, .str p.1.1, rfl, rfl, SqT.of hq, at0 p, _, .inl ⟨_, Sum.inr p.1.1, .inl hd2, rfl, rfl⟩, ?_⟩
      rw [valV_bk, getD_val]
      refine ⟨_, _, rfl, rfl, .inl ⟨?_, ?_⟩, r⟩
      · have := rp.1; omega
      · have := rp.2; omega
    · refine ⟨D, (Pp.filter fun p => decide (p.1.2 = z)).map (fun p => p.2 * val0 Qc p.1.1), rfl, SqL.of (by rw [hD1, List.map_map]; rfl), _, _, rfl, rfl, ?_⟩
      have := q H1 s1
      have e : waterOf B Pp Qp Qc z = val0 Qp z - bz * val0 Qc z + ((Pp.filter fun p => decide (p.1.2 = z)).map (fun p => p.2 * val0 Qc p.1.1)).sum := by
        unfold waterOf insOf
        rw [List.map_map, show val0 B z = bz by unfold val0; rw [gz]; rfl]
        show val0 Qp z + ((Pp.filter fun p => decide (p.1.2 = z)).map (fun p => p.2 * val0 Qc p.1.1)).sum - bz * val0 Qc z = _
        omega
      rw [e] at this
      exact this
end
end Nl
end
section
set_option maxHeartbeats 1000000
namespace Nl
open PySem PySem.Spec PyProof.Rows L2 Nt
section
variable {B : Br} {Pp : Pi} {Qp Qc Qd : Br} {z o : Str} {t i j : Int}
theorem wOf_nonneg (wf : Wf Nm B Pp) (q : Str × Str) : 0 ≤ wOf Pp q := by
  unfold wOf getP
  cases e : Pp.find? fun p => decide (p.1 = q) with
  | none => exact Int.le_refl _
  | some p =>
    have := (wf.rp p (List.mem_of_find?_eq_some e)).2.2.2
    show 0 ≤ p.2
    omega
theorem wOf_self (wf : Wf Nm B Pp) (x : Str) : wOf Pp (x, x) = 0 := by
  unfold wOf
  rw [getP_none fun h => ?_]
  · rfl
  · obtain ⟨p, hp, e⟩ := List.mem_map.mp h
    have := (wf.rp p hp).2.2.1
    rw [show p.1 = (x, x) from e] at this
    exact this rfl
theorem brim_pos (wf : Wf Nm B Pp) (mz : z ∈ nms B) : 1 ≤ val0 B z ∧ val0 B z ≤ 60 := by
  obtain ⟨b, g⟩ := getB_some mz
  have := (wf.rb _ (getB_mem g)).2
  unfold val0
  rw [g]; exact this
/-- counts, told as two ponds' spills more -/
def More2 (B : Br) (Qc Qd : Br) (z o : Str) (i j : Int) : Prop := ∀ x ∈ nms B, val0 Qd x = val0 Qc x + (if x = z then i else 0) + if x = o then j else 0
theorem water_more2 (good : Good B Pp) (zo : z ≠ o) (mz : z ∈ nms B) (h : More2 B Qc Qd z o i j) : waterOf B Pp Qp Qd z = waterOf B Pp Qp Qc z - val0 B z * i + wOf Pp (o, z) * j := by
  have h1 : ∀ x ∈ nms B, val0 (putB Qc z (val0 Qc z + i)) x = val0 Qc x + if x = z then i else 0 := fun x hx => by
    rw [putB_val]
    by_cases e : x = z
    · rw [if_pos e, if_pos e, e]
    · rw [if_neg e, if_neg e]; omega
  have h2 : ∀ x ∈ nms B, val0 Qd x = val0 (putB Qc z (val0 Qc z + i)) x + if x = o then j else 0 := fun x hx => by
    rw [h x hx, h1 x hx]
  rw [water_next good mz h2, water_next good mz h1, wOf_self good.wf, if_pos rfl, if_neg (Ne.symm zo)]
  omega
theorem ediv_add {a b i : Int} (hb : 0 < b) : (a - b * i) / b = a / b - i := by
  rw [show a - b * i = a + b * (-i) by rw [Int.mul_neg]; omega, Int.add_mul_ediv_left _ _ (by omega)]
  omega
/-- a pond that spilled i times can spill at least so many times less -/
theorem most_ge (good : Good B Pp) (zo : z ≠ o) (mz : z ∈ nms B) (i0 : 0 ≤ i) (j0 : 0 ≤ j) (h : More2 B Qc Qd z o i j) (hi : i ≤ mostOf B Pp Qp Qc z) : mostOf B Pp Qp Qc z - i ≤ mostOf B Pp Qp Qd z := by
  obtain ⟨b1, b2⟩ := brim_pos good.wf mz
  have e := water_more2 (Qp := Qp) good zo mz h
  have w0 := Int.mul_nonneg (wOf_nonneg good.wf (o, z)) j0
  have d1 : (waterOf B Pp Qp Qc z - val0 B z * i) / val0 B z ≤ waterOf B Pp Qp Qd z / val0 B z := Int.ediv_le_ediv (by omega) (by omega)
  rw [ediv_add (by omega)] at d1
  unfold mostOf at hi ⊢
  split at hi <;> split <;> split <;> omega
theorem most_self (good : Good B Pp) (mz : z ∈ nms B) (h : ∀ x ∈ nms B, val0 Qd x = val0 Qc x + if x = z then t else 0) (hi : t ≤ mostOf B Pp Qp Qc z) (t0 : 0 ≤ t) : mostOf B Pp Qp Qd z = mostOf B Pp Qp Qc z - t := by
  obtain ⟨b1, b2⟩ := brim_pos good.wf mz
  have e := water_next (Qp := Qp) good mz h
  rw [wOf_self good.wf, if_pos rfl] at e
  have e2 : waterOf B Pp Qp Qd z = waterOf B Pp Qp Qc z - val0 B z * t := by omega
  have d1 : waterOf B Pp Qp Qd z / val0 B z = waterOf B Pp Qp Qc z / val0 B z - t := by rw [e2, ediv_add (by omega)]
  unfold mostOf at hi ⊢
  rw [d1]
  split at hi
  · rename_i c
    rw [if_pos c]
    split <;> omega
  · rename_i c
    rw [if_neg c]
    have : t = 0 := by omega
    subst this
    split <;> omega
theorem water_mono (good : Good B Pp) (zo : o ≠ z) (mo : o ∈ nms B) (t0 : 0 ≤ t) (h : ∀ x ∈ nms B, val0 Qd x = val0 Qc x + if x = z then t else 0) : waterOf B Pp Qp Qc o ≤ waterOf B Pp Qp Qd o := by
  rw [water_next good mo h, if_neg (Ne.symm zo)]
  have := Int.mul_nonneg (wOf_nonneg good.wf (z, o)) t0
  omega
theorem most_mono (good : Good B Pp) (zo : o ≠ z) (mo : o ∈ nms B) (t0 : 0 ≤ t) (h : ∀ x ∈ nms B, val0 Qd x = val0 Qc x + if x = z then t else 0) : mostOf B Pp Qp Qc o ≤ mostOf B Pp Qp Qd o := by
  obtain ⟨b1, b2⟩ := brim_pos good.wf mo
  have d1 : waterOf B Pp Qp Qc o / val0 B o ≤ waterOf B Pp Qp Qd o / val0 B o := Int.ediv_le_ediv (by omega) (water_mono good zo mo t0 h)
  unfold mostOf
  split <;> split <;> omega
/-- what may come into a pond -/
theorem flow_le (good : Good B Pp) (mz : z ∈ nms B) {M : Int} (M0 : 0 ≤ M) (hM : ∀ x ∈ nms B, val0 Qc x ≤ M) : flowIn Pp Qc z ≤ 60 * M := by
  have fit := fun p hp => (good.fit p hp).2
  obtain ⟨b, g⟩ := getB_some mz
  have f1 : inW Pp z ≤ b := fit _ (getB_mem g)
  have r : b ≤ 60 := (good.wf.rb _ (getB_mem g)).2.2
  have step : flowIn Pp Qc z ≤ inW Pp z * M := by
    unfold flowIn inW sumOf
    have rp := good.wf.rp
    clear fit f1 g mz good r
    have : ∀ S : Pi, (∀ p ∈ S, p.1.1 ∈ nms B ∧ 1 ≤ p.2) → ((S.filter fun p => decide (p.1.2 = z)).map fun p => p.2 * val0 Qc p.1.1).sum ≤ ((S.filter fun p => decide (p.1.2 = z)).map (·.2)).sum * M := by
      intro S
      induction S with
      | nil => intro _; simp
      | cons p r ih =>
        intro h
        have ih' := ih fun q hq => h q (List.mem_cons_of_mem _ hq)
        obtain ⟨h1, h2⟩ := h p List.mem_cons_self
        rw [List.filter_cons]
        split
        · rw [List.map_cons, List.map_cons, List.sum_cons, List.sum_cons, Int.add_mul]
          have := Int.mul_le_mul_of_nonneg_left (hM p.1.1 h1) (show 0 ≤ p.2 by omega)
          omega
        · exact ih'
    exact this Pp fun p hp => ⟨(rp p hp).1, (rp p hp).2.2.2.1⟩
  have : inW Pp z ≤ 60 := by omega
  have := Int.mul_le_mul_of_nonneg_right this M0
  omega
theorem most_le (good : Good B Pp) (mz : z ∈ nms B) {M N : Int} (M0 : 0 ≤ M) (hM : ∀ x ∈ nms B, 0 ≤ val0 Qc x ∧ val0 Qc x ≤ M) (hN : val0 Qp z ≤ N) (N0 : 0 ≤ N) : mostOf B Pp Qp Qc z ≤ N + 60 * M := by
  obtain ⟨b1, b2⟩ := brim_pos good.wf mz
  have f := flow_le (Qc := Qc) good mz M0 fun x hx => (hM x hx).2
  have w : waterOf B Pp Qp Qc z ≤ N + 60 * M := by
    rw [water_flow]
    have := Int.mul_nonneg (show 0 ≤ val0 B z by omega) (hM z mz).1
    omega
  unfold mostOf
  split
  · rename_i c
    have : waterOf B Pp Qp Qc z / val0 B z ≤ N + 60 * M := by
      refine Int.le_trans (Int.ediv_le_ediv (by omega) w) ?_
      exact Int.ediv_le_self _ (by omega)
    omega
  · omega
theorem most_pos (wf : Wf Nm B Pp) (mz : z ∈ nms B) (h : val0 B z ≤ waterOf B Pp Qp Qc z) : 1 ≤ mostOf B Pp Qp Qc z := by
  obtain ⟨b1, b2⟩ := brim_pos wf mz
  have : 1 ≤ waterOf B Pp Qp Qc z / val0 B z := by
    have := Int.ediv_le_ediv (show 0 < val0 B z by omega) h
    rw [Int.ediv_self (by omega)] at this
    exact this
  unfold mostOf
  rw [if_pos (by omega)]
  exact this
theorem flow_nonneg (wf : Wf Nm B Pp) (h : ∀ x ∈ nms B, 0 ≤ val0 Qc x) : 0 ≤ flowIn Pp Qc z := by
  unfold flowIn
  have : ∀ S : Pi, (∀ p ∈ S, p.1.1 ∈ nms B ∧ 1 ≤ p.2) → 0 ≤ ((S.filter fun p => decide (p.1.2 = z)).map fun p => p.2 * val0 Qc p.1.1).sum := by
    intro S
    induction S with
    | nil => intro _; simp
    | cons p r ih =>
      intro hs
      have ih' := ih fun q hq => hs q (List.mem_cons_of_mem _ hq)
      obtain ⟨h1, h2⟩ := hs p List.mem_cons_self
      rw [List.filter_cons]
      split
      · rw [List.map_cons, List.sum_cons]
        have := Int.mul_nonneg (show 0 ≤ p.2 by omega) (h p.1.1 h1)
        omega
      · exact ih'
  exact this Pp fun p hp => ⟨(wf.rp p hp).1, (wf.rp p hp).2.2.2.1⟩
end
/-- one pond more, without pipes -/
theorem Good.grow {B : Br} {Pp : Pi} {z : Str} {b : Int} (g : Good B Pp) (lb : B.length < 12) (nz : Nm z) (fz : z ∉ nms B) (b1 : 1 ≤ b) (b2 : b ≤ 60) : Good (B ++ [(z, b)]) Pp := by
  have wf := g.wf
  have o0 : outW Pp z = 0 := by
    unfold outW sumOf
    rw [List.filter_eq_nil_iff.mpr fun p hp => by
      have := (wf.rp p hp).1
      simp only [decide_eq_true_eq]
      exact fun e => fz (by rw [← e]; exact this)]
    rfl
  have i0 : inW Pp z = 0 := by
    unfold inW sumOf
    rw [List.filter_eq_nil_iff.mpr fun p hp => by
      have := (wf.rp p hp).2.1
      simp only [decide_eq_true_eq]
      exact fun e => fz (by rw [← e]; exact this)]
    rfl
  have opn : ∀ x, Opn B Pp x → Opn (B ++ [(z, b)]) Pp x := fun x h => by
    induction h with
    | soak h1 h2 => exact .soak (List.mem_append_left _ h1) h2
    | step h1 _ ih => exact .step h1 ih
  refine ⟨⟨?_, ?_, ?_, wf.np, wf.lp, ?_⟩, ?_, ?_⟩
  · rw [nms_append]
    refine List.nodup_append.mpr ⟨wf.nb, List.nodup_cons.mpr ⟨List.not_mem_nil, .nil⟩, fun u mu t mt => ?_⟩
    have et : t = z := by simpa [nms] using mt
    exact fun e => fz (by rw [← et, ← e]; exact mu)
  · rw [List.length_append]
    show B.length + 1 ≤ 12
    omega
  · intro p hp
    rcases List.mem_append.mp hp with h | h
    · exact wf.rb p h
    · have : p = (z, b) := by simpa using h
      subst this
      exact ⟨nz, b1, b2⟩
  · intro p hp
    obtain ⟨h1, h2, r⟩ := wf.rp p hp
    rw [nms_append]
    exact ⟨List.mem_append_left _ h1, List.mem_append_left _ h2, r⟩
  · intro p hp
    rcases List.mem_append.mp hp with h | h
    · exact g.fit p h
    · have : p = (z, b) := by simpa using h
      subst this
      show outW Pp z ≤ b ∧ inW Pp z ≤ b
      omega
  · intro x hx
    rw [nms_append] at hx
    rcases List.mem_append.mp hx with h | h
    · exact opn x (g.op x h)
    · have : x = z := by simpa [nms] using h
      subst this
      exact .soak (List.mem_append_right _ (List.mem_singleton.mpr rfl)) (by rw [o0]; omega)
end Nl
end
section
set_option maxHeartbeats 4000000
namespace Nl
open PySem PySem.Spec PyProof.Rows L2 Nt
/-- f(e, k = v, ..) of a def with defaults, all written -/
theorem kb1 {K : PySem.W.Frag} {x qual : Str} {params : Arguments} {body : List Stmt} {scope : Scope} {dvs : List V} {kws : List (Str × V)} {f : Addr} {fd : FuncData} {ps : List Str} (F : FunD K x qual params body scope dvs kws f fd) (n : Nat) (ks : List Str) (hd : dvs ≠ [])
    (h : ∀ (T : Addr) (kV doc pm : Value) (an : Option Addr) (cdv ct : Value) (us ws its : List Value), us.length = n → ws.length = ks.length → its.length = dvs.length →
      ∃ k, bindArgs (PySem.W.fnOf x qual params body scope (.ref T) kV doc pm an cdv ct) ⟨us, ks.zip ws⟩ = seqItems? (.ref T) >>= k ∧ k (some its.toArray) = pure (ps.zip (us ++ ws))) : KBn K fd ps n ks (fun us ws => us ++ ws) (fun vs zs => vs ++ zs) := by
  obtain ⟨oc, od, dV, kV, doc, pm, an, cdv, ct, osl, rfl, lk, hcd, hD, hK⟩ := F.ex
  rcases hD with ⟨e, _⟩ | ⟨_, T, o, its, m, rfl, lT, oT, rT⟩
  · exact absurd e hd
  · refine ⟨fun s us ws X l1 l2 => ?_, fun r1 r2 => r1.append r2⟩
    obtain ⟨k, e1, e2⟩ := h T kV doc pm an cdv ct us ws its l1 l2 rT.length.symm
    refine BindsTo.of_looks fun M => ?_
    rw [e1]
    exact looks_items X lT oT (.of_pure e2)
theorem putB_more {B Qd : Br} {z : Str} {t : Int} : ∀ x ∈ nms B, val0 (putB Qd z (val0 Qd z + t)) x = val0 Qd x + if x = z then t else 0 := fun x hx => by
  rw [putB_val]
  by_cases e : x = z
  · rw [if_pos e, if_pos e, e]
  · rw [if_neg e, if_neg e]; omega
section
variable {P : Program} {w : World} {K : PySem.W.Frag} {mg : Str → Option Value} {base : Heap}
/-- dict([(one, N) for one in dict]) -/
theorem pairs_lc {K : PySem.W.Frag} {B : Br} {a : Addr} {H : Hp} {σ : L2.St} {te : TE} {ja jv : Nat} {Q : V → Hp → Prop} (val : Str → Int) (lb : B.length ≤ 12) (ha : H a = some (.dK (bk B))) (hja : σ[ja]? = some (some (.ref a)))
    (hv : ∀ z : Str, ((wipe σ [jv]).set jv (some (.str z)))[jv]? = some (some (V.str z))) (hw : ∀ z : Str, wipe ((wipe σ [jv]).set jv (some (.str z))) [jv] = wipe σ [jv])
    (ht : ∀ (p : Str × Int) (od : Obj) (H2 : Hp) (R : V → Hp → Prop), p ∈ B → Same (upd H a (.frz od (.dK (bk B)))) H2 → (∀ H3, Same H2 H3 → R (.int (val p.1)) H3) → te ((wipe σ [jv]).set jv (some (.str p.1))) H2 R)
    (q : ∀ D as H', Same H H' → H D = none → H' D = some (.lst (as.map V.ref)) → PairsAt H' as (mapN (nms B) val) → Q (.ref D) H') : tLockE (tLc (iKeys (tVar ja)) (gName jv) tYes (tTup (tCons (tVar jv) (tCons te tNil))) [jv]) σ H Q := by
  refine ⟨a, _, ha, trivial, fun od => ?_⟩
  refine ⟨.ref a, hja, a, od, rfl, .inl ⟨_, upd_same, fun D nD => ?_⟩⟩
  have hDa : D ≠ a := fun e => by subst e; rw [upd_same] at nD; cases nD
  have nDH : H D = none := by rw [upd_ne hDa] at nD; exact nD
  refine lc_it (n := (bk B).length) walk_keys (fun i H9 => ∃ as, H9 D = some (.lst (as.map V.ref)) ∧ PairsAt H9 as (mapN (nms (B.take i)) val) ∧ Same (upd H a (.frz od (.dK (bk B)))) H9)
      ⟨[], upd_same, ⟨rfl, fun i p e => by simp [mapN, nms] at e⟩, same_new nD⟩ (fun i H9 _ ⟨_, _, _, h⟩ => h a _ upd_same) ?_ ?_
  · rintro i x H9 H9' hi ⟨as, hD9, hP9, sm⟩ ⟨rfl, kk, v, hkv, rfl⟩
    obtain ⟨p, hp, rfl, rfl⟩ := bk_at hkv
    have lA : as.length ≤ 12 := by
      rw [hP9.1]
      unfold mapN
      rw [List.length_map, nms_len, List.length_take]
      omega
    refine ⟨hw p.1, .str p.1, hv p.1, ht p od H9' _ (List.mem_of_getElem? hp) sm fun H10 s10 => ?_⟩
    refine ⟨line1000 (by show 2 ≤ 1000; decide), fun t nt => ?_⟩
    have hD10 := s10 D _ hD9
    have nDt : D ≠ t := ne_of_none hD10 nt
    refine ⟨_, (by rw [upd_ne nDt]; exact hD10), (by rw [List.length_map]; exact small1000 (by omega)), as ++ [t], ?_, ?_, ?_⟩
    · rw [upd_same, List.map_append]; rfl
    · have e : mapN (nms (B.take (i + 1))) val = mapN (nms (B.take i)) val ++ [(p.1, val p.1)] := by
        rw [List.take_add_one, hp, nms_append]
        unfold mapN
        rw [List.map_append]; rfl
      rw [e]
      refine PairsAt.push (p := (p.1, val p.1)) (hP9.same s10) (fun b xs eb => ?_) (by rw [upd_ne (Ne.symm nDt), upd_same])
      have nb : b ≠ D := fun z => by subst z; rw [hD10] at eb; cases eb
      rw [upd_ne nb, upd_ne (ne_of_none eb nt)]; exact eb
    · exact fun c o ec => by
        have nb : c ≠ D := ne_of_none ec nD
        have e9 := s10 c o (sm c o ec)
        rw [upd_ne nb, upd_ne (ne_of_none e9 nt)]; exact e9
  · rintro H9 ⟨as, hD9, hP9, sm9⟩
    obtain ⟨l1, l2⟩ := same_lock ha sm9
    rw [bk_len, List.take_length] at hP9
    refine ⟨l1, q D as _ l2 nDH (by rw [upd_ne hDa]; exact hD9) ⟨hP9.1, fun i p e => ?_⟩⟩
    obtain ⟨t, e1, e2⟩ := hP9.2 i p e
    refine ⟨t, e1, ?_⟩
    have nt : t ≠ a := fun z => by subst z; rw [l1] at e2; cases e2
    rw [upd_ne nt]; exact e2
/-- two dicts of the same numbers -/
theorem dicts_alike {B : Br} {ys : List Str} {f : Str → Int} (nd : (nms B).Nodup) (pm : ys.Perm (nms B)) : (bk (mapN ys f)).length = (bk (mapN (nms B) f)).length ∧ ∀ p ∈ bk (mapN ys f), valV (bk (mapN (nms B) f)) p.1 = some p.2 ∧ flatB p.2 = true := by
  refine ⟨?_, fun p hp => ?_⟩
  · rw [bk_len, bk_len]
    unfold mapN
    rw [List.length_map, List.length_map, pm.length_eq]
  · obtain ⟨q, hq, e⟩ := List.mem_map.mp hp
    obtain ⟨x, hx, e2⟩ := List.mem_map.mp hq
    subst e
    subst e2
    refine ⟨?_, rfl⟩
    show valV (bk (mapN (nms B) f)) (Sum.inr x : Key) = some (.int (f x))
    rw [valV_bk, show getB (mapN (nms B) f) x = some (f x) from getB_map nd (pm.mem_iff.mp hx)]; rfl
theorem scLWaters : FnScope ["_law_wide", "_law_joins", "_law_poured", "_law_counts", "_law_one"] ["_law_wide", "_law_joins", "_law_poured", "_law_counts"] (defScope sLWaters) := ⟨rfl, rfl, rfl, by decide +kernel, rfl, by decide +kernel, by decide +kernel⟩
def spLWaters : Sp := fun vs H Q _ => ∃ (a b c d : Addr) (B : Br) (Pp : Pi) (Qp Qc : Br), vs = [.ref a, .ref b, .ref c, .ref d] ∧ H a = some (.dK (bk B)) ∧ H b = some (.dT (pt Pp)) ∧ H c = some (.dK (bk Qp)) ∧ H d = some (.dK (bk Qc)) ∧ a ≠ c ∧ a ≠ d ∧ Good B Pp ∧
  ∀ (r : Addr) (H' : Hp), Same H H' → H r = none → H' r = some (.dK (bk (mapN (nms B) (waterOf B Pp Qp Qc)))) → Q (.ref r) H'
theorem ok_lwaters {f fW : Addr} {fd fdW : FuncData} (F : Fun K "_law_waters" "_law_waters" sLWaters f fd)
    (FW : Fun K "_law_water" "_law_water" sLWater fW fdW) (GW : FnOk P w K mg base CX0 1 fW fdW ["_law_wide", "_law_joins", "_law_poured", "_law_counts", "_law_one"] spLWater) (bW : Binds K fdW ["_law_wide", "_law_joins", "_law_poured", "_law_counts", "_law_one"] []) (gW : mg "_law_water" = some (.ref fW)) (md : mg "dict" = none) :
    FnOk P w K mg base CX0 2 f fd ["_law_wide", "_law_joins", "_law_poured", "_law_counts"] spLWaters := by
  refine F.ok scLWaters (fun vs H Q E h => ?_) (fun cdv A outer s H vs Q E hr h => ?_)
  · obtain ⟨a, b, c, d, B, Pp, Qp, Qc, rfl, _⟩ := h
    rfl
  · obtain ⟨a, b, c, d, B, Pp, Qp, Qc, rfl, hA, hB, hC, hD, nac, nad, good, q⟩ := h
    have wf := good.wf
    refine ⟨_, pss_one (ps_ret (pe_callTy (call_dictP rfl) (by rfl) md (by decide +kernel) (pa_cons (pe_lock (pe_lc (own := [("_law_one", 4)]) (g := gName 4) (tt := tYes) rfl scLWaters.nd (pi_keys (pv 0))
          (blkOk_by (N := ["_law_wide", "_law_joins", "_law_poured", "_law_counts", "_law_one"]) (sc := defScope sLWaters) (by decide +kernel)) (fun _ _ _ _ _ => pg_name (i := 4) scLWaters.nd rfl (Or.inl rfl)) (fun _ _ _ _ _ => pts_nil)
          (fun _ _ _ _ _ => pe_tup (pa_cons (pv 4) (pa_cons (pe_call GW hr (by rfl) gW FW.kp bW .nil pass0 (pa_cons (pv 0) (pa_cons (pv 1) (pa_cons (pv 2) (pa_cons (pv 3) (pa_cons (pv 4) pa_nil)))))) pa_nil))))) pa_nil))), ?_⟩
    have nab : b ≠ a := fun e => by subst e; rw [hA] at hB; cases hB
    refine pairs_lc (K := K) (ja := 0) (jv := 4) (waterOf B Pp Qp Qc) wf.lb hA rfl (fun _ => rfl) (fun _ => rfl) (fun p od H2 R hm sm r => ?_) fun D as H2 s2 nD hD2 hP2 => ?_
    · exact ⟨.ref a, rfl, .ref b, rfl, .ref c, rfl, .ref d, rfl, .str p.1, rfl, a, b, c, d, B, Pp, Qp, Qc, p.1, rfl, .inr ⟨od, sm a _ upd_same⟩, same_off sm nab hB, same_off sm (Ne.symm nac) hC, same_off sm (Ne.symm nad) hD, wf, List.mem_map.mpr ⟨p, hm, rfl⟩, r⟩
    refine ⟨D, as, bk (mapN (nms B) (waterOf B Pp Qp Qc)), rfl, SqL.of hD2, paired_of hP2, fun t nt => ?_⟩
    have ndN : (nms (mapN (nms B) (waterOf B Pp Qp Qc))).Nodup := by unfold mapN; rw [nms_map]; exact wf.nb
    have em : mergeK [] (bk (mapN (nms B) (waterOf B Pp Qp Qc))) = bk (mapN (nms B) (waterOf B Pp Qp Qc)) := merge_bk _ [] ndN
    rw [em]
    exact q t _ (s2.trans (same_new nt)) (s2.free nt) upd_same
theorem scMore : FnScope ["_law_counts", "_law_one", "_law_many", "_law_found"] ["_law_counts", "_law_one", "_law_many"] (defScope sMore) := ⟨rfl, rfl, rfl, by decide +kernel, rfl, by decide +kernel, by decide +kernel⟩
def spMore : Sp := fun vs H Q _ => ∃ (d : Addr) (z : Str) (t : Int) (Qc : Br), vs = [.ref d, .str z, .int t] ∧ H d = some (.dK (bk Qc)) ∧ Qc.length ≤ 12 ∧ ∀ (r : Addr) (H' : Hp), Same H H' → H r = none → H' r = some (.dK (bk (putB Qc z (val0 Qc z + t)))) → Q (.ref r) H'
theorem ok_more {f : Addr} {fd : FuncData} {k : Nat} (F : Fun K "_law_more" "_law_more" sMore f fd) (md : mg "dict" = none) : FnOk P w K mg base CX0 (k + 1) f fd ["_law_counts", "_law_one", "_law_many"] spMore := by
  refine F.ok scMore (fun vs H Q E h => ?_) (fun cdv A outer s H vs Q E hr h => ?_)
  · obtain ⟨d, z, t, Qc, rfl, _⟩ := h
    rfl
  · obtain ⟨d, z, t, Qc, rfl, hD, lQ, q⟩ := h
    have hu := hu_of hr
    refine ⟨_, pss_cons (ps_set (i := 3) scMore.nd rfl (by first | exact .inl rfl | exact .inr rfl) (pe_callTy call_dictD (by rfl) md (by decide +kernel) (pa_cons (pv 0) pa_nil)))
      (pss_cons (ps_dput hu (pv 3) (pv 1) (pe_op op_add (pe_dget2 hu (pv 3) (pv 1) pe_int ⟨rfl, rfl, rfl, rfl⟩) (pv 2)) rfl)
      (pss_one (ps_ret (pv 3)))), ?_⟩
    refine ⟨.ref d, rfl, d, bk Qc, rfl, .inl hD, fun r nr => ?_⟩
    refine ⟨.ref r, rfl, r, rfl, .inl ⟨_, .inl upd_same⟩, .str z, rfl, _, .inl ⟨_, Sum.inr z, .inl upd_same, rfl, rfl⟩, ?_⟩
    rw [valV_bk, getD_val]
    refine ⟨.int t, rfl, _, _, rfl, rfl, .ref r, rfl, .str z, rfl, r, _, rfl, DPut.k (k := Sum.inr z) upd_same (by rw [bk_len]; exact small1000 (by omega)), ?_⟩
    rw [putK_putB]
    refine ⟨.ref r, rfl, q r _ (fun y o ey => ?_) nr upd_same⟩
    rw [upd_ne (ne_of_none ey nr), upd_ne (ne_of_none ey nr)]; exact ey
theorem scOneBy : FnScope ["_law_stand", "_law_one", "_law_many", "_law_turn"] ["_law_stand", "_law_one", "_law_many"] (defScope sOneBy) := ⟨rfl, rfl, rfl, by decide +kernel, rfl, by decide +kernel, by decide +kernel⟩
def spOneBy (CS C : Addr) : Sp := fun vs H Q _ => ∃ (s : Addr) (z : Str) (m : Int) (B : Br) (Pp : Pi) (Qp Qc : Br), vs = [.ref s, .str z, .int m] ∧ StOf CS C H s B Pp Qp Qc ∧ Good B Pp ∧ z ∈ nms B ∧ 0 ≤ m ∧ m ≤ 12 ∧ m ≤ mostOf B Pp Qp Qc z ∧
  ∀ (H' : Hp) (r : Addr), Same H H' → (∀ Qd : Br, (∀ x ∈ nms B, val0 Qd x = val0 Qc x + if x = z then m else 0) → StOf CS C H' r B Pp Qp Qd) → Q (.ref r) H'
theorem ok_oneBy {f fS CS C : Addr} {fd fdS : FuncData} {ds2 : List Value} (F : Fun K "_law_one_by_one" "_law_one_by_one" sOneBy f fd)
    (GS : FnOk P w K mg base CX0 9 fS fdS ["stand", "name", "times"] (spSpilled CS C)) (kS : PySem.W.keepIn K (.ref fS) = true) (b2 : Binds K fdS ["stand", "name", "times"] ds2) (v2 : Vals [.int 1] ds2) (gS : mg "spilled" = some (.ref fS)) (mr : mg "range" = none) :
    FnOk P w K mg base CX0 10 f fd ["_law_stand", "_law_one", "_law_many"] (spOneBy CS C) := by
  refine F.ok scOneBy (fun vs H Q E h => ?_) (fun cdv A outer s H vs Q E hr h => ?_)
  · obtain ⟨s, z, m, B, Pp, Qp, Qc, rfl, _⟩ := h
    rfl
  · obtain ⟨s, z, m, B, Pp, Qp, Qc, rfl, S, good, mz, m0, m12, h1, q⟩ := h
    refine ⟨_, pss_cons (ps_for PassesOwn.never rfl (pi_range1 (by rfl) mr (pa_cons (pv 2) pa_nil)) (pg_name (i := 3) scOneBy.nd rfl (Or.inl rfl))
        (pss_one (ps_set (i := 0) scOneBy.nd rfl (by first | exact .inl rfl | exact .inr rfl) (pe_call GS hr (by rfl) gS kS b2 v2 pass0 (pa_cons (pv 0) (pa_cons (pv 1) pa_nil))))))
      (pss_one (ps_ret (pv 0))), ?_⟩
    refine ⟨.int m, rfl, m, rfl, by omega, by omega, ?_⟩
    refine for_it walk_range (fun i σ H2 => ∃ (s' : Addr) (Qi : Br) (y : Option V), σ = [some (.ref s'), some (.str z), some (.int m), y] ∧ Same H H2 ∧ StOf CS C H2 s' B Pp Qp Qi ∧ ∀ x ∈ nms B, val0 Qi x = val0 Qc x + if x = z then (i : Int) else 0)
      ⟨s, Qc, none, rfl, Same.refl _, S, fun x hx => by split <;> omega⟩ (fun _ _ _ _ _ => trivial) ?_ ?_
    · rintro i v σ H2 H2' hi ⟨s', Qi, y, rfl, sm, Si, Mi⟩ ⟨rfl, rfl⟩
      have im : (i : Int) < m := by omega
      have a1 := most_self (Qp := Qp) good mz Mi (by omega) (by omega)
      refine ⟨.ref s', rfl, .str z, rfl, s', B, Pp, Qp, Qi, z, 1, rfl, Si, good, mz, by decide, by omega, fun H3 r s3 nr St _ => ?_⟩
      refine ⟨r, _, _, rfl, sm.trans s3, St _ putB_more, fun x hx => ?_⟩
      rw [putB_more x hx, Mi x hx]
      split <;> omega
    · rintro σ H2 ⟨s', Qi, y, rfl, sm, Si, Mi⟩
      refine ⟨.ref s', rfl, q H2 s' sm fun Qd hd => Si.alike fun x hx => ?_⟩
      rw [hd x hx, Mi x hx, show ((m.toNat : Nat) : Int) = m by omega]
end
end Nl
end
section
set_option maxHeartbeats 8000000
namespace Nl
open PySem PySem.Spec PyProof.Rows L2 Nt
theorem StOf.count {CS C : Addr} {H : Hp} {s : Addr} {B : Br} {Pp : Pi} {Qp Qc : Br} {z : Str} (S : StOf CS C H s B Pp Qp Qc) (good : Good B Pp) (mz : z ∈ nms B) : ∃ B' P' Qp' Qc', StandAt CS C H s B' P' Qp' Qc' ∧ Full B' Qc' ∧ Nm z ∧ z ∈ nms B' ∧ val0 Qc' z = val0 Qc z := by
  obtain ⟨B', P', Qp', Qc', SA, g', pB, pP, so, fp, fc, v1, v2, nn⟩ := S
  have pm : (nms B').Perm (nms B) := pB.map Prod.fst
  obtain ⟨u, hu, e⟩ := List.mem_map.mp mz
  exact ⟨B', P', Qp', Qc', SA, fc, by rw [← (show u.1 = z from e)]; exact (good.wf.rb u hu).1, pm.mem_iff.mpr mz, v2 z mz⟩
section
variable {P : Program} {w : World} {K : PySem.W.Frag} {mg : Str → Option Value} {base : Heap}
theorem scIsSpilled : FnScope ["_law_pot_here", "_law_stand", "_law_one", "_law_most", "_law_many", "_law_behind", "_law_first", "_law_part", "_law_few"] ["_law_pot_here", "_law_stand", "_law_one", "_law_most", "_law_many"] (defScope sIsSpilled) := ⟨rfl, rfl, rfl, by decide +kernel, rfl, by decide +kernel, by decide +kernel⟩
def spIsSpilled (CS C : Addr) : Sp := fun vs H Q _ => ∃ (p s : Addr) (z : Str) (t : Int) (B : Br) (Pp : Pi) (Qp Qc : Br), vs = [.ref p, .ref s, .str z, .int (mostOf B Pp Qp Qc z), .int t] ∧ PotAt H p ∧ StOf CS C H s B Pp Qp Qc ∧ Good B Pp ∧ z ∈ nms B ∧ 1 ≤ t ∧ t ≤ mostOf B Pp Qp Qc z ∧ t < 2 ^ 199 ∧
  ∀ H', Kp p H H' → PotAt H' p → Q (.bl true) H'
theorem ok_isSpilled {f fD fS fC fM fO fE fCn CS C : Addr} {fd fdD fdS fdC fdM fdO fdE fdCn : FuncData} {ds2 : List Value} (F : Fun K "_law_is_spilled" "_law_is_spilled" sIsSpilled f fd) (TS : TxS K mg CS)
    (FD : Fun K "_law_draw" "_law_draw" sDraw fD fdD) (GD : FnOk P w K mg base CX0 1 fD fdD ["_law_pot_here", "_law_many"] spDraw) (bD : Binds K fdD ["_law_pot_here", "_law_many"] []) (gD : mg "_law_draw" = some (.ref fD))
    (GS : FnOk P w K mg base CX0 9 fS fdS ["stand", "name", "times"] (spSpilled CS C)) (kS : PySem.W.keepIn K (.ref fS) = true) (bS : Binds K fdS ["stand", "name", "times"] []) (kbS : KBn K fdS ["stand", "name", "times"] 1 ["name", "times"] (fun us ws => us ++ ws) (fun vs zs => vs ++ zs)) (gS : mg "spilled" = some (.ref fS))
    (GC : FnOk P w K mg base CX0 8 fC fdC ["stand", "name", "times"] (spCan CS C)) (kC : PySem.W.keepIn K (.ref fC) = true) (bC : Binds K fdC ["stand", "name", "times"] []) (bC2 : Binds K fdC ["stand", "name", "times"] ds2) (vC2 : Vals [.int 1] ds2) (gC : mg "can_spill" = some (.ref fC))
    (FM : Fun K "most_spills" "most_spills" sMost fM fdM) (GM : FnOk P w K mg base CX0 7 fM fdM ["stand", "name"] (spMost CS C)) (bM : Binds K fdM ["stand", "name"] []) (gM : mg "most_spills" = some (.ref fM))
    (FO : Fun K "_law_one_by_one" "_law_one_by_one" sOneBy fO fdO) (GO : FnOk P w K mg base CX0 10 fO fdO ["_law_stand", "_law_one", "_law_many"] (spOneBy CS C)) (bO : Binds K fdO ["_law_stand", "_law_one", "_law_many"] []) (gO : mg "_law_one_by_one" = some (.ref fO))
    (GE : FnOk P w K mg base CX0 2 fE fdE ["self", "other"] (spEq (StandsEq CS C))) (bE : Binds K fdE ["self", "other"] []) (mE : Meth K CS "__eq__" fE)
    (mCn : Meth K CS "count" fCn) (GCn : FnOk P w K mg base CX0 5 fCn fdCn ["self", "name"] (spCount CS C)) (bCn : Binds K fdCn ["self", "name"] []) (mm : mg "min" = none) :
    FnOk P w K mg base CX0 11 f fd ["_law_pot_here", "_law_stand", "_law_one", "_law_most", "_law_many"] (spIsSpilled CS C) := by
  refine F.ok scIsSpilled (fun vs H Q E h => ?_) (fun cdv A outer s H vs Q E hr h => ?_)
  · obtain ⟨p, s, z, t, B, Pp, Qp, Qc, rfl, _⟩ := h
    rfl
  · obtain ⟨p, s, z, t, B, Pp, Qp, Qc, rfl, hP, S, good, mz, t1, tm, tb, q⟩ := h
    have hr1 := hr.mono (show 1 ≤ 10 by decide)
    have hr2 := hr.mono (show 2 ≤ 10 by decide)
    have hr5 := hr.mono (show 5 ≤ 10 by decide)
    have hr7 := hr.mono (show 7 ≤ 10 by decide)
    have hr8 := hr.mono (show 8 ≤ 10 by decide)
    have hr9 := hr.mono (show 9 ≤ 10 by decide)
    refine ⟨_, pss_cons (ps_set (i := 5) scIsSpilled.nd rfl (by first | exact .inl rfl | exact .inr rfl) (pe_call GS hr9 (by rfl) gS kS bS .nil pass0 (pa_cons (pv 1) (pa_cons (pv 2) (pa_cons (pv 4) pa_nil)))))
      (pss_cons (ps_set (i := 6) scIsSpilled.nd rfl (by first | exact .inl rfl | exact .inr rfl) (pe_call GD hr1 (by rfl) gD FD.kp bD .nil pass0 (pa_cons (pv 0) (pa_cons (pe_op op_add (pv 4) pe_int) pa_nil))))
      (pss_cons (ps_set (i := 7) scIsSpilled.nd rfl (by first | exact .inl rfl | exact .inr rfl) (pv 1))
      (pss_cons (ps_mid (ps_if (pt_cmpR op_gt (pv 6) pe_int (nomark _)) (pss_one (ps_set (i := 7) scIsSpilled.nd rfl (by first | exact .inl rfl | exact .inr rfl) (pe_callN GS hr9 (by rfl) gS kS kbS pass0 (pa_cons (pv 7) pa_nil) (pk_cons (pv 2) (pk_cons (pv 6) pk_nil))))) pss_nil))
      (pss_cons (ps_mid (ps_if (pt_cmpR op_lt (pv 6) (pv 4) (nomark _)) (pss_one (ps_set (i := 7) scIsSpilled.nd rfl (by first | exact .inl rfl | exact .inr rfl) (pe_call GS hr9 (by rfl) gS kS bS .nil pass0 (pa_cons (pv 7) (pa_cons (pv 2) (pa_cons (pe_op op_sub (pv 4) (pv 6)) pa_nil)))))) pss_nil))
      (pss_cons (ps_set (i := 8) scIsSpilled.nd rfl (by first | exact .inl rfl | exact .inr rfl) (pe_callB (call_min2 rfl) (by rfl) mm (by decide +kernel) (pa_cons (pv 4) (pa_cons pe_int pa_nil))))
      (pss_cons (ps_if (PW.pt (pw_or (pt_not (pt_cmpR (op_eqG (rcG_ins (C := CS) GE mE.at_ mE.fn bE pass0) hr2) (pv 7) (pv 5) (nomark _)))
        (pw_or1 (pt_not (pt_cmpR (op_eqG (rcG_ins (C := CS) GE mE.at_ mE.fn bE pass0) hr2) (pe_call GO hr (by rfl) gO FO.kp bO .nil pass0 (pa_cons (pv 1) (pa_cons (pv 2) (pa_cons (pv 8) pa_nil)))) (pe_call GS hr9 (by rfl) gS kS bS .nil pass0 (pa_cons (pv 1) (pa_cons (pv 2) (pa_cons (pv 8) pa_nil)))) (nomark _)))))) (pss_one (ps_ret pe_bl)) pss_nil)
      (pss_cons (ps_if (PW.pt (pw_or (pt_not (pt_cmpR (op_eqG (rcG_ins (C := CS) GE mE.at_ mE.fn bE pass0) hr2) (pe_call GS hr9 (by rfl) gS kS bS .nil pass0 (pa_cons (pv 1) (pa_cons (pv 2) (pa_cons (pv 4) pa_nil)))) (pv 5) (nomark _)))
        (pw_or1 (pt_cmpR op_ne (pe_meth (pv 5) TS.cl mCn GCn hr5 bCn .nil pass0 (pa_cons (pv 2) pa_nil)) (pe_op op_add (pe_meth (pv 1) TS.cl mCn GCn hr5 bCn .nil pass0 (pa_cons (pv 2) pa_nil)) (pv 4)) (nomark _))))) (pss_one (ps_ret pe_bl)) pss_nil)
      (pss_cons (ps_if (PW.pt (pw_or (pt_cmpR op_ne (pe_call GM hr7 (by rfl) gM FM.kp bM .nil pass0 (pa_cons (pv 5) (pa_cons (pv 2) pa_nil))) (pe_op op_sub (pv 3) (pv 4)) (nomark _))
        (pw_or1 (pt_cmpR op_ne (pe_call GC hr8 (by rfl) gC kC bC2 vC2 pass0 (pa_cons (pv 5) (pa_cons (pv 2) pa_nil))) (pe_cmpR op_lt (pv 4) (pv 3) (nomark _)) (nomark _))))) (pss_one (ps_ret pe_bl)) pss_nil)
      (pss_one (ps_ret (pe_cmpR op_isBl (pe_call GC hr8 (by rfl) gC kC bC .nil pass0 (pa_cons (pv 1) (pa_cons (pv 2) (pa_cons (pv 4) pa_nil)))) pe_bl (nomark _)))))))))))), ?_⟩
    -- behind
    refine ⟨.ref s, rfl, .str z, rfl, .int t, rfl, s, B, Pp, Qp, Qc, z, t, rfl, S, good, mz, t1, tm, fun H1 bh s1 nbh Sb _ => ?_⟩
    refine ⟨.ref p, rfl, .int t, rfl, t, 1, rfl, rfl, p, t + 1, rfl, hP.same s1, by omega, by omega, fun fi H2 k2 hP2 fi0 fi1 => ?_⟩
    have n2 := NL.of_kp (hP.same s1) k2
    have pQ := putB_more (B := B) (Qd := Qc) (z := z) (t := t)
    obtain ⟨Qb, hQb⟩ : ∃ Qb, Qb = putB Qc z (val0 Qc z + t) := ⟨_, rfl⟩
    rw [← hQb] at pQ
    have Sb2 := (Sb Qb pQ).nl n2
    have S2 := (S.same s1).nl n2
    have k02 : Kp p H H2 := (Kp.of_same s1).trans k2
    clear Sb
    refine ⟨.ref s, rfl, ?_⟩
    refine ⟨fun σ' H' => ∃ (s' : Addr) (Qi : Br), σ' = [some (.ref p), some (.ref s), some (.str z), some (.int (mostOf B Pp Qp Qc z)), some (.int t), some (.ref bh), some (.int fi), some (.ref s'), none] ∧ Same H2 H' ∧ StOf CS C H' s' B Pp Qp Qi ∧ ∀ x ∈ nms B, val0 Qi x = val0 Qc x + if x = z then fi else 0, ?_, ?_⟩
    · refine ⟨.int fi, rfl, fi, 0, rfl, rfl, _, rfl, ite2 (fun c => ?_) (fun c => ?_)⟩
      · have c0 : 0 < fi := of_decide_eq_true c
        refine ⟨.ref s, rfl, .str z, rfl, .int fi, rfl, rfl, rfl, s, B, Pp, Qp, Qc, z, fi, rfl, S2, good, mz, by omega, by omega, fun H3 r s3 nr St _ => ?_⟩
        exact ⟨r, _, rfl, s3, St _ putB_more, putB_more⟩
      · have c0 : ¬ 0 < fi := fun e => c (decide_eq_true e)
        exact ⟨s, Qc, rfl, Same.refl _, S2, fun x hx => by split <;> omega⟩
    rintro σ H3 ⟨s', Qi, rfl, s23, Si, Mi⟩
    refine ⟨fun σ' H' => ∃ (s' : Addr) (Qi : Br), σ' = [some (.ref p), some (.ref s), some (.str z), some (.int (mostOf B Pp Qp Qc z)), some (.int t), some (.ref bh), some (.int fi), some (.ref s'), none] ∧ Same H2 H' ∧ StOf CS C H' s' B Pp Qp Qi ∧ ∀ x ∈ nms B, val0 Qi x = val0 Qc x + if x = z then t else 0, ?_, ?_⟩
    · refine ⟨.int fi, rfl, .int t, rfl, fi, t, rfl, rfl, _, rfl, ite2 (fun c => ?_) (fun c => ?_)⟩
      · have c0 : fi < t := of_decide_eq_true c
        have ms := most_self (Qp := Qp) good mz Mi (by omega) fi0
        refine ⟨.ref s', rfl, .str z, rfl, .int t, rfl, .int fi, rfl, t, fi, rfl, rfl, s', B, Pp, Qp, Qi, z, t - fi, rfl, Si, good, mz, by omega, by omega, fun H4 r s4 nr St _ => ?_⟩
        refine ⟨r, _, rfl, s23.trans s4, St _ putB_more, fun x hx => ?_⟩
        rw [putB_more x hx, Mi x hx]
        split <;> omega
      · have c0 : ¬ fi < t := fun e => c (decide_eq_true e)
        have e : fi = t := by omega
        subst e
        exact ⟨s', Qi, rfl, s23, Si, Mi⟩
    clear Mi Si s23
    rintro σ H4 ⟨s'', Qj, rfl, s24, Sj, Mj⟩
    -- few
    obtain ⟨few, hfew⟩ : ∃ few, few = if (12 : Int) < t then 12 else t := ⟨_, rfl⟩
    have f1 : 1 ≤ few := by rw [hfew]; split <;> omega
    have f2 : few ≤ t := by rw [hfew]; split <;> omega
    have f3 : few ≤ 12 := by rw [hfew]; split <;> omega
    refine ⟨.int t, rfl, t, 12, rfl, ?_⟩
    rw [← hfew]
    have S4 := S2.same s24
    have Sb4 := Sb2.same s24
    obtain ⟨a1, a2, a3, a4, ah⟩ := Sj.ins
    obtain ⟨b1, b2, b3, b4, bhh⟩ := Sb4.ins
    refine ⟨.ref s'', rfl, .ref bh, rfl, ⟨s'', bh, _, _, _, _, rfl, rfl, ah, bhh, B, Pp, Qp, Qj, Qp, Qb, Sj, Sb4, fun _ _ => rfl, fun x hx => by rw [Mj x hx, pQ x hx]⟩, fun H5 x5 => ⟨true, rfl, iteF ?_⟩⟩
    have s25 : Same H2 H5 := s24.trans x5
    refine ⟨.ref s, rfl, .str z, rfl, .int few, rfl, s, z, few, B, Pp, Qp, Qc, rfl, S2.same s25, good, mz, by omega, f3, by omega, fun H6 o1 s6 So => ?_⟩
    refine ⟨.ref s, rfl, .str z, rfl, .int few, rfl, s, B, Pp, Qp, Qc, z, few, rfl, (S2.same s25).same s6, good, mz, f1, by omega, fun H7 o2 s7 no2 Sp _ => ?_⟩
    have pF := putB_more (B := B) (Qd := Qc) (z := z) (t := few)
    have So' := (So _ pF).same s7
    have Sp' := Sp _ pF
    obtain ⟨c1, c2, c3, c4, ch⟩ := So'.ins
    obtain ⟨d1, d2, d3, d4, dh⟩ := Sp'.ins
    refine ⟨⟨o1, o2, _, _, _, _, rfl, rfl, ch, dh, B, Pp, Qp, _, Qp, _, So', Sp', fun _ _ => rfl, fun _ _ => rfl⟩, fun H8 x8 => ⟨true, rfl, iteF ?_⟩⟩
    have s28 : Same H2 H8 := s25.trans (s6.trans (s7.trans x8))
    -- asked again, and its count
    refine ⟨.ref s, rfl, .str z, rfl, .int t, rfl, s, B, Pp, Qp, Qc, z, t, rfl, S2.same s28, good, mz, t1, tm, fun H9 o3 s9 no3 Sq _ => ?_⟩
    have Sq' := Sq Qb pQ
    have s29 := s28.trans s9
    obtain ⟨e1, e2, e3, e4, eh⟩ := Sq'.ins
    obtain ⟨g1, g2, g3, g4, gh⟩ := (Sb2.same s29).ins
    refine ⟨.ref bh, rfl, ⟨o3, bh, _, _, _, _, rfl, rfl, eh, gh, B, Pp, Qp, Qb, Qp, Qb, Sq', Sb2.same s29, fun _ _ => rfl, fun _ _ => rfl⟩, fun H10 x10 => ⟨true, rfl, iteF ?_⟩⟩
    have s210 : Same H2 H10 := s29.trans x10
    obtain ⟨B1, P1, Qp1, Qc1, SA1, fc1, nz1, mz1, ec1⟩ := (Sb2.same s210).count good mz
    obtain ⟨h1, h2, h3, h4, hh⟩ := (Sb2.same s210).ins
    refine ⟨.ref bh, rfl, bh, h1, _, rfl, hh, sf_no, .str z, rfl, bh, B1, P1, Qp1, Qc1, z, rfl, SA1, fc1, nz1, mz1, fun H11 s11 => ?_⟩
    rw [ec1]
    have s211 := s210.trans s11
    obtain ⟨B2, P2, Qp2, Qc2, SA2, fc2, nz2, mz2, ec2⟩ := (S2.same s211).count good mz
    obtain ⟨j1, j2, j3, j4, jh⟩ := (S2.same s211).ins
    refine ⟨.ref s, rfl, s, j1, _, rfl, jh, sf_no, .str z, rfl, s, B2, P2, Qp2, Qc2, z, rfl, SA2, fc2, nz2, mz2, fun H12 s12 => ?_⟩
    rw [ec2]
    have s212 := s211.trans s12
    refine ⟨.int t, rfl, _, _, rfl, rfl, rfl, _, rfl, iteNS ?_ ?_⟩
    · rw [pQ z mz, if_pos rfl]
    -- most
    have ms := most_self (Qp := Qp) good mz pQ tm (by omega)
    refine ⟨.ref bh, rfl, .str z, rfl, bh, B, Pp, Qp, Qb, z, rfl, Sb2.same s212, good, mz, fun H13 s13 => ?_⟩
    refine ⟨.int _, rfl, .int t, rfl, _, _, rfl, rfl, rfl, _, rfl, iteNS ?_ ?_⟩
    · rw [ms]
    have s213 := s212.trans s13
    refine ⟨.ref bh, rfl, .str z, rfl, bh, B, Pp, Qp, Qb, z, 1, rfl, Sb2.same s213, good, mz, by decide, fun H14 s14 => ?_⟩
    refine ⟨.int t, rfl, .int _, rfl, t, _, rfl, rfl, rfl, _, rfl, iteNS ?_ ?_⟩
    · rw [ms]
      exact congrArg V.bl (decide_eq_decide.mpr (by omega))
    have s214 := s213.trans s14
    refine ⟨.ref s, rfl, .str z, rfl, .int t, rfl, s, B, Pp, Qp, Qc, z, t, rfl, S2.same s214, good, mz, t1, fun H15 s15 => ?_⟩
    rw [decide_eq_true tm]
    exact ⟨true, true, rfl, rfl, q H15 (k02.trans (Kp.of_same (s214.trans s15))) (hP2.same (s214.trans s15))⟩
end
end Nl
end
section
set_option maxHeartbeats 8000000
namespace Nl
open PySem PySem.Spec PyProof.Rows L2 Nt
theorem Same.kp {H H1 H2 : Hp} {p : Addr} (s : Same H H1) (n : H p = none) (k : Kp p H1 H2) : Same H H2 := fun x o e => k x o (ne_of_none e n) (s x o e)
/-- how great the counts may be behind so many spills -/
def bnd (j : Nat) : Int := 2 ^ 130 * 128 ^ j
theorem bnd_next (j : Nat) : bnd (j + 1) = 128 * bnd j := by
  unfold bnd
  have h : (128 : Int) ^ (j + 1) = 128 ^ j * 128 := Int.pow_succ 128 j
  rw [h, ← Int.mul_assoc, Int.mul_comm]
theorem bnd_low : ∀ j : Nat, 2 ^ 130 ≤ bnd j
  | 0 => by decide
  | j + 1 => by
    have := bnd_low j
    rw [bnd_next]
    have h0 : (0 : Int) ≤ 2 ^ 130 := by decide
    omega
theorem bnd_high {j : Nat} (h : j < 6) : 60 * bnd j + 10 ^ 38 < 2 ^ 199 := by
  have : j = 0 ∨ j = 1 ∨ j = 2 ∨ j = 3 ∨ j = 4 ∨ j = 5 := by omega
  rcases this with rfl | rfl | rfl | rfl | rfl | rfl <;> decide
section
variable {P : Program} {w : World} {K : PySem.W.Frag} {mg : Str → Option Value} {base : Heap}
theorem scLaw : FnScope ["_law_script", "_law_k", "_law_pot_here", "_law_wide", "_law_joins", "_law_poured", "_law_counts", "_law_stand", "_law_turn", "_law_can", "_law_one", "_law_most", "_law_many"] ["_law_script"] (defScope sLaw) := ⟨rfl, rfl, rfl, by decide +kernel, rfl, by decide +kernel, by decide +kernel⟩
def spLaw (K : PySem.W.Frag) : Sp := fun vs H Q _ => ∃ (a : Addr) (ns : List Int), vs = [.ref a] ∧ SqL K H a (ns.map V.int) ∧ ns.length ≤ 63 ∧ ∀ H', Q (.bl true) H'
theorem ok_law {f fP fD fN fSo fW fLw fMr fMo fSp fIS fCt fWs fNI fSI CS C : Addr} {fd fdP fdD fdN fdSo fdW fdLw fdMr fdMo fdSp fdIS fdCt fdWs fdNI fdSI : FuncData} {dsN dsS : List Value} (F : Fun K "law" "law" sLaw f fd) (T : TxN K mg C) (TS : TxS K mg CS)
    (FP : Fun K "_law_pot" "_law_pot" sPot fP fdP) (GP : FnOk P w K mg base CX0 1 fP fdP ["_law_script", "_law_k"] (spPot K)) (bP : Binds K fdP ["_law_script", "_law_k"] []) (gP : mg "_law_pot" = some (.ref fP))
    (FD : Fun K "_law_draw" "_law_draw" sDraw fD fdD) (GD : FnOk P w K mg base CX0 1 fD fdD ["_law_pot_here", "_law_many"] spDraw) (bD : Binds K fdD ["_law_pot_here", "_law_many"] []) (gD : mg "_law_draw" = some (.ref fD))
    (FN : Fun K "_law_net" "_law_net" sNet fN fdN) (GN : FnOk P w K mg base CX0 3 fN fdN ["_law_pot_here", "_law_most", "_law_high"] spNet) (bN : Binds K fdN ["_law_pot_here", "_law_most", "_law_high"] []) (gN : mg "_law_net" = some (.ref fN))
    (FSo : Fun K "_law_some" "_law_some" sSome fSo fdSo) (GSo : FnOk P w K mg base CX0 2 fSo fdSo ["_law_pot_here", "_law_wide", "_law_far"] spSome) (bSo : Binds K fdSo ["_law_pot_here", "_law_wide", "_law_far"] []) (gSo : mg "_law_some" = some (.ref fSo))
    (FW : Fun K "_law_water" "_law_water" sLWater fW fdW) (GW : FnOk P w K mg base CX0 1 fW fdW ["_law_wide", "_law_joins", "_law_poured", "_law_counts", "_law_one"] spLWater) (bW : Binds K fdW ["_law_wide", "_law_joins", "_law_poured", "_law_counts", "_law_one"] []) (gW : mg "_law_water" = some (.ref fW))
    (FLw : Fun K "_law_waters" "_law_waters" sLWaters fLw fdLw) (GLw : FnOk P w K mg base CX0 2 fLw fdLw ["_law_wide", "_law_joins", "_law_poured", "_law_counts"] spLWaters) (bLw : Binds K fdLw ["_law_wide", "_law_joins", "_law_poured", "_law_counts"] []) (gLw : mg "_law_waters" = some (.ref fLw))
    (FMr : Fun K "_law_more" "_law_more" sMore fMr fdMr) (GMr : FnOk P w K mg base CX0 1 fMr fdMr ["_law_counts", "_law_one", "_law_many"] spMore) (bMr : Binds K fdMr ["_law_counts", "_law_one", "_law_many"] []) (gMr : mg "_law_more" = some (.ref fMr))
    (FMo : Fun K "most_spills" "most_spills" sMost fMo fdMo) (GMo : FnOk P w K mg base CX0 7 fMo fdMo ["stand", "name"] (spMost CS C)) (bMo : Binds K fdMo ["stand", "name"] []) (gMo : mg "most_spills" = some (.ref fMo))
    (GSp : FnOk P w K mg base CX0 9 fSp fdSp ["stand", "name", "times"] (spSpilled CS C)) (kSp : PySem.W.keepIn K (.ref fSp) = true) (bSp : Binds K fdSp ["stand", "name", "times"] []) (gSp : mg "spilled" = some (.ref fSp))
    (FIS : Fun K "_law_is_spilled" "_law_is_spilled" sIsSpilled fIS fdIS) (GIS : FnOk P w K mg base CX0 11 fIS fdIS ["_law_pot_here", "_law_stand", "_law_one", "_law_most", "_law_many"] (spIsSpilled CS C)) (bIS : Binds K fdIS ["_law_pot_here", "_law_stand", "_law_one", "_law_most", "_law_many"] []) (gIS : mg "_law_is_spilled" = some (.ref fIS))
    (mCt : Meth K CS "counts" fCt) (GCt : FnOk P w K mg base CX0 1 fCt fdCt ["self"] (spCounts CS C)) (bCt : Binds K fdCt ["self"] [])
    (mWs : Meth K CS "waters" fWs) (GWs : FnOk P w K mg base CX0 7 fWs fdWs ["self"] (spWaters CS C)) (bWs : Binds K fdWs ["self"] [])
    (MN : Mk K C fNI) (GNI : FnOk P w K mg base CX0 5 fNI fdNI ["self", "brims", "pipes"] (spNInit C)) (bNI : Binds K fdNI ["self", "brims", "pipes"] dsN) (vNI : Vals [] dsN)
    (MS : Mk K CS fSI) (GSI : FnOk P w K mg base CX0 5 fSI fdSI ["self", "net", "poured", "counts"] (spSInit CS C)) (bSI : Binds K fdSI ["self", "net", "poured", "counts"] dsS) (vSI : Vals [] dsS)
    (mr : mg "range" = none) (mx : mg "max" = none) (mm : mg "min" = none) (mn : mg "len" = none) (mso : mg "sorted" = none) (md : mg "dict" = none) : FnOk P w K mg base CX0 12 f fd ["_law_script"] (spLaw K) := by
  refine F.ok scLaw (fun vs H Q E h => ?_) (fun cdv A outer s H vs Q E hr h => ?_)
  · obtain ⟨a, ns, rfl, _⟩ := h
    rfl
  · obtain ⟨a0, ns, rfl, hS, hlen, q⟩ := h
    have hu := hu_of hr
    have hr1 := hr.mono (show 1 ≤ 11 by decide)
    have hr2 := hr.mono (show 2 ≤ 11 by decide)
    have hr3 := hr.mono (show 3 ≤ 11 by decide)
    have hr6 := hr.mono (show 6 ≤ 11 by decide)
    have hr7 := hr.mono (show 7 ≤ 11 by decide)
    have hr9 := hr.mono (show 9 ≤ 11 by decide)
    have hU := Nat.lt_of_le_of_lt (Nat.le_add_right _ 64) hr.units
    refine ⟨_, pss_cons (ps_for PassesOwn.never rfl (pi_range1 (by rfl) mr (pa_cons (pe_callB (call_max2 rfl) (by rfl) mx (by decide +kernel) (pa_cons pe_int (pa_cons (pe_callB (call_min2 rfl) (by rfl) mm (by decide +kernel) (pa_cons pe_int (pa_cons (pe_callB call_len_seq (by rfl) mn PySem.boot_len (pa_cons (pv 0) pa_nil)) pa_nil))) pa_nil))) pa_nil))
        (pg_name (i := 1) scLaw.nd rfl (Or.inl rfl))
        (pss_cons (ps_set (i := 2) scLaw.nd rfl (by first | exact .inl rfl | exact .inr rfl) (pe_call GP hr1 (by rfl) gP FP.kp bP .nil pass0 (pa_cons (pv 0) (pa_cons (pv 1) pa_nil))))
        (pss_cons (ps_asg (pe_call GN hr3 (by rfl) gN FN.kp bN .nil pass0 (pa_cons (pv 2) (pa_cons pe_int (pa_cons pe_int pa_nil)))) (pg_tup rfl (pgs_cons (pg_name (i := 3) scLaw.nd rfl (by first | exact .inl rfl | exact .inr rfl)) (pgs_cons (pg_name (i := 4) scLaw.nd rfl (by first | exact .inl rfl | exact .inr rfl)) pgs_nil))))
        (pss_cons (ps_asg (pe_tup (pa_cons (pe_call GSo hr2 (by rfl) gSo FSo.kp bSo .nil pass0 (pa_cons (pv 2) (pa_cons (pv 3) (pa_cons (pe_op op_pow pe_int pe_int) pa_nil)))) (pa_cons (pe_call GSo hr2 (by rfl) gSo FSo.kp bSo .nil pass0 (pa_cons (pv 2) (pa_cons (pv 3) (pa_cons (pe_op op_pow pe_int pe_int) pa_nil)))) pa_nil)))
          (pg_tup rfl (pgs_cons (pg_name (i := 5) scLaw.nd rfl (by first | exact .inl rfl | exact .inr rfl)) (pgs_cons (pg_name (i := 6) scLaw.nd rfl (by first | exact .inl rfl | exact .inr rfl)) pgs_nil))))
        (pss_cons (ps_set (i := 7) scLaw.nd rfl (by first | exact .inl rfl | exact .inr rfl) (pe_make MS GSI hr6 (by rfl) TS.mgC bSI vSI pass0 (pa_cons (pe_make MN GNI hr6 (by rfl) T.mgC bNI vNI pass0 (pa_cons (pv 3) (pa_cons (pv 4) pa_nil))) (pa_cons (pv 5) (pa_cons (pv 6) pa_nil)))))
        (pss_cons (ps_for PassesOwn.never rfl (pi_range1 (by rfl) mr (pa_cons (pe_call GD hr1 (by rfl) gD FD.kp bD .nil pass0 (pa_cons (pv 2) (pa_cons pe_int pa_nil))) pa_nil)) (pg_name (i := 8) scLaw.nd rfl (Or.inl rfl))
          (pss_cons (ps_setLc (i := 9) (own := [("_law_one", 10)]) (g := gName 10) rfl scLaw.nd rfl rfl (by first | exact rfl | exact sw_true rfl rfl rfl (by decide +kernel)) (pi_list (pe_callB (call_sortedD rfl) (by rfl) mso (by decide +kernel) (pa_cons (pv 3) pa_nil)))
            (blkOk_by (N := ["_law_script", "_law_k", "_law_pot_here", "_law_wide", "_law_joins", "_law_poured", "_law_counts", "_law_stand", "_law_turn", "_law_can", "_law_one", "_law_most", "_law_many"]) (sc := defScope sLaw) (by decide +kernel)) (fun _ _ _ _ _ => pg_name (i := 10) scLaw.nd rfl (Or.inl rfl))
            (fun _ _ _ _ _ => pts_one (pt_cmpR op_ge (pe_call GW hr1 (by rfl) gW FW.kp bW .nil pass0 (pa_cons (pv 3) (pa_cons (pv 4) (pa_cons (pv 5) (pa_cons (pv 6) (pa_cons (pv 10) pa_nil)))))) (pe_dget hu (pv 3) (pv 10) (fun _ _ => rfl)) (nomark _))) (fun _ _ _ _ _ => pv 10))
          (pss_one (ps_if (pt_cmpR (op_neD hr.units) (pv 9) (pe_lst pa_nil) (nomark _))
            (pss_cons (ps_set (i := 10) scLaw.nd rfl (by first | exact .inl rfl | exact .inr rfl) (pe_ix ix_list (pv 9) (pe_call GD hr1 (by rfl) gD FD.kp bD .nil pass0 (pa_cons (pv 2) (pa_cons (pe_callB call_len_seq (by rfl) mn PySem.boot_len (pa_cons (pv 9) pa_nil)) pa_nil))) (fun _ _ => rfl)))
            (pss_cons (ps_set (i := 11) scLaw.nd rfl (by first | exact .inl rfl | exact .inr rfl) (pe_op op_fdiv (pe_call GW hr1 (by rfl) gW FW.kp bW .nil pass0 (pa_cons (pv 3) (pa_cons (pv 4) (pa_cons (pv 5) (pa_cons (pv 6) (pa_cons (pv 10) pa_nil)))))) (pe_dget hu (pv 3) (pv 10) (fun _ _ => rfl))))
            (pss_cons (ps_set (i := 12) scLaw.nd rfl (by first | exact .inl rfl | exact .inr rfl) (pe_op op_add pe_int (pe_call GD hr1 (by rfl) gD FD.kp bD .nil pass0 (pa_cons (pv 2) (pa_cons (pe_ix ix_list (pe_lst (pa_cons (pv 11) (pa_cons (pe_callB (call_min2 rfl) (by rfl) mm (by decide +kernel) (pa_cons (pv 11) (pa_cons pe_int pa_nil))) pa_nil)))
              (pe_call GD hr1 (by rfl) gD FD.kp bD .nil pass0 (pa_cons (pv 2) (pa_cons pe_int pa_nil))) (fun _ _ => rfl)) pa_nil)))))
            (pss_cons (ps_if (PW.pt (pw_or (pt_cmpR op_ne (pe_call GMo hr7 (by rfl) gMo FMo.kp bMo .nil pass0 (pa_cons (pv 7) (pa_cons (pv 10) pa_nil))) (pv 11) (nomark _))
              (pw_or1 (pt_not (pt_val (pe_call GIS hr (by rfl) gIS FIS.kp bIS .nil pass0 (pa_cons (pv 2) (pa_cons (pv 7) (pa_cons (pv 10) (pa_cons (pv 11) (pa_cons (pv 12) pa_nil)))))))))))  (pss_one (ps_ret pe_bl)) pss_nil)
            (pss_cons (ps_if (pt_cmpR (op_ne_dictA hU) (pe_meth0 (pv 7) TS.cl mWs GWs hr7 bWs .nil pass0) (pe_call GLw hr2 (by rfl) gLw FLw.kp bLw .nil pass0 (pa_cons (pv 3) (pa_cons (pv 4) (pa_cons (pv 5) (pa_cons (pv 6) pa_nil))))) (nomark _)) (pss_one (ps_ret pe_bl)) pss_nil)
            (pss_cons (ps_set (i := 7) scLaw.nd rfl (by first | exact .inl rfl | exact .inr rfl) (pe_call GSp hr9 (by rfl) gSp kSp bSp .nil pass0 (pa_cons (pv 7) (pa_cons (pv 10) (pa_cons (pv 12) pa_nil)))))
            (pss_one (ps_set (i := 6) scLaw.nd rfl (by first | exact .inl rfl | exact .inr rfl) (pe_call GMr hr1 (by rfl) gMr FMr.kp bMr .nil pass0 (pa_cons (pv 6) (pa_cons (pv 10) (pa_cons (pv 12) pa_nil))))))))))))  pss_nil))))
        (pss_cons (ps_if (pt_cmpR (op_ne_dictA hU) (pe_meth0 (pv 7) TS.cl mWs GWs hr7 bWs .nil pass0) (pe_call GLw hr2 (by rfl) gLw FLw.kp bLw .nil pass0 (pa_cons (pv 3) (pa_cons (pv 4) (pa_cons (pv 5) (pa_cons (pv 6) pa_nil))))) (nomark _)) (pss_one (ps_ret pe_bl)) pss_nil)
        (pss_one (ps_if (pt_cmpR (op_ne_dictA hU) (pe_meth0 (pv 7) TS.cl mCt GCt hr1 bCt .nil pass0) (pe_callTy (call_dictP rfl) (by rfl) md (by decide +kernel) (pa_cons (pe_lock (pe_lc (own := [("_law_one", 10)]) (g := gName 10) (tt := tYes) rfl scLaw.nd (pi_keys (pv 3))
            (blkOk_by (N := ["_law_script", "_law_k", "_law_pot_here", "_law_wide", "_law_joins", "_law_poured", "_law_counts", "_law_stand", "_law_turn", "_law_can", "_law_one", "_law_most", "_law_many"]) (sc := defScope sLaw) (by decide +kernel)) (fun _ _ _ _ _ => pg_name (i := 10) scLaw.nd rfl (Or.inl rfl)) (fun _ _ _ _ _ => pts_nil)
            (fun _ _ _ _ _ => pe_tup (pa_cons (pv 10) (pa_cons (pe_dget2 hu (pv 6) (pv 10) pe_int ⟨rfl, rfl, rfl, rfl⟩) pa_nil))))) pa_nil)) (nomark _)) (pss_one (ps_ret pe_bl)) pss_nil)))))))))
      (pss_one (ps_ret pe_bl)), ?_⟩
    refine ⟨.ref a0, rfl, a0, _, rfl, .inl hS, 3, _, rfl, 1, _, rfl, _, rfl, ?_, ?_, ?_⟩
    · split <;> split <;> omega
    · split <;> split <;> omega
    refine for_it walk_range (fun i σ H2 => ∃ (y1 y2 y3 y4 y5 y6 y7 y8 y9 y10 y11 y12 : Option V), σ = [some (.ref a0), y1, y2, y3, y4, y5, y6, y7, y8, y9, y10, y11, y12] ∧ Same H H2)
      ⟨none, none, none, none, none, none, none, none, none, none, none, none, rfl, Same.refl _⟩ (fun _ _ _ _ _ => trivial) ?_ ?_
    · rintro i x σ H2 H2' hi ⟨y1, y2, y3, y4, y5, y6, y7, y8, y9, y10, y11, y12, rfl, sm⟩ ⟨rfl, rfl⟩
      have hi8 : i < 63 := by
        split at hi <;> split at hi <;> omega
      refine ⟨.ref a0, rfl, .int (0 + (i : Int)), rfl, a0, ns, _, rfl, sm.seq hS, by omega, by omega, fun H3 p s3 np hP3 => ?_⟩
      clear hi
      have npH : H p = none := sm.free np
      have sm3 := sm.trans s3
      -- the net
      refine ⟨.ref p, rfl, p, 12, 60, rfl, hP3, by decide, by decide, by decide, by decide, fun t a b B Pp H4 k4 hP4 nt na nb ht ha hb good => ?_⟩
      refine ⟨t, [.ref a, .ref b], rfl, SqT.of ht, rfl, .ref a, [.ref b], rfl, .ref b, [], rfl, rfl, ?_⟩
      have wf := good.wf
      have lB := wf.lb
      have sm4 := Same.kp sm3 npH k4
      -- poured, counts
      refine ⟨.ref p, rfl, .ref a, rfl, 10, 38, rfl, rfl, ⟨by decide, by decide, by decide⟩, p, a, _, B, rfl, hP4, ha, lB, wf.nb, by decide, by decide, fun c Qp H5 k5 hP5 nc hc ndp okp => ?_⟩
      have n5 := NL.of_kp hP4 k5
      refine ⟨.ref p, rfl, .ref a, rfl, 10, 36, rfl, rfl, ⟨by decide, by decide, by decide⟩, p, a, _, B, rfl, hP5, n5.dk ha, lB, wf.nb, by decide, by decide, fun d Qc H6 k6 hP6 nd hdd ndc okc => ?_⟩
      have n6 := NL.of_kp hP5 k6
      have nac : a ≠ c := fun e => by rw [← e, ha] at nc; cases nc
      have nad : a ≠ d := fun e => by rw [← e, n5.dk ha] at nd; cases nd
      refine ⟨line1000 (by show 2 ≤ 1000; decide), fun t7 nt7 => ?_⟩
      refine ⟨t7, [.ref c, .ref d], rfl, SqT.of upd_same, rfl, .ref c, [.ref d], rfl, .ref d, [], rfl, rfl, ?_⟩
      have s7 : Same H6 (upd H6 t7 (.tup [.ref c, .ref d])) := same_new nt7
      have n67 := NL.of_same s7
      have n47 := n5.trans (n6.trans n67)
      have ha7 := n47.dk ha
      have hb7 := n47.dt hb
      have hc7 := (n6.trans n67).dk hc
      have hd7 := n67.dk hdd
      have sm7 := (Same.kp (Same.kp sm4 npH k5) npH k6).trans s7
      have hP7 := hP6.same s7
      obtain ⟨H7, hH7⟩ : ∃ H7, H7 = upd H6 t7 (.tup [.ref c, .ref d]) := ⟨_, rfl⟩
      rw [← hH7] at ha7 hb7 hc7 hd7 sm7 hP7 ⊢
      clear hH7 s7 n67 n47 n6 n5
      have lQ : ∀ {Qd : Br}, (nms Qd).Nodup → (∀ y ∈ Qd, y.1 ∈ nms B) → Qd.length ≤ 12 := fun {Qd} h1 h2 => by
        have := len_le_of_sub h1 (m := nms B) fun y hy => by
          obtain ⟨u, hu', e⟩ := List.mem_map.mp hy
          rw [← (show u.1 = y from e)]; exact h2 u hu'
        rw [nms_len, nms_len] at this
        omega
      have vC : ∀ x ∈ nms B, 0 ≤ val0 Qc x ∧ val0 Qc x ≤ bnd 0 := fun x _ => by
        unfold val0
        cases g : getB Qc x with
        | none => exact ⟨Int.le_refl _, by decide⟩
        | some v =>
          have := okc _ (getB_mem g)
          have h1 : 0 ≤ v := this.2.1
          have h2 : v < 400 ∨ v < 10 ^ 36 := this.2.2
          have h3 : (10 : Int) ^ 36 ≤ bnd 0 := by decide
          show 0 ≤ v ∧ v ≤ bnd 0
          omega
      have vP : ∀ x, val0 Qp x ≤ 10 ^ 38 := fun x => by
        unfold val0
        cases g : getB Qp x with
        | none => exact (by decide : (0 : Int) ≤ 10 ^ 38)
        | some v =>
          have := okp _ (getB_mem g)
          have h2 : v < 400 ∨ v < 10 ^ 38 := this.2.2
          show v ≤ 10 ^ 38
          omega
      -- Net
      refine ⟨.ref a, rfl, .ref b, rfl, fun x dx nx ndx nex => ?_⟩
      have s8 : Same H7 (upd (upd H7 dx (.own x)) x (.ins C dx [])) := fun y o e => by
        rw [upd_ne (ne_of_none e nx), upd_ne (ne_of_none e ndx)]; exact e
      refine ⟨x, dx, a, b, B, Pp, rfl, upd_same, s8 a _ ha7, s8 b _ hb7, good, fun H8 B' P' N pB pP so _ W8 kp8 => ⟨rfl, ?_⟩⟩
      have s78 : Same H7 H8 := fun y o e => kp8 y o (s8 y o e) (ne_of_none e nx)
      have g' : Good B' P' := good.perm pB.symm pP.symm
      have pmN : (nms B').Perm (nms B) := pB.map Prod.fst
      -- Stand
      refine ⟨.ref c, rfl, .ref d, rfl, fun x2 dx2 nx2 ndx2 nex2 => ?_⟩
      have s9 : Same H8 (upd (upd H8 dx2 (.own x2)) x2 (.ins CS dx2 [])) := fun y o e => by
        rw [upd_ne (ne_of_none e nx2), upd_ne (ne_of_none e ndx2)]; exact e
      refine ⟨x2, dx2, x, .ref c, .ref d, B', P', Qp, Qc, rfl, upd_same, N.same s9, g', ⟨.inr ⟨c, rfl, s9 c _ (s78 c _ hc7)⟩, ndp, by have := lQ ndp fun y hy => (okp y hy).1; omega, fun y hy => ⟨pmN.mem_iff.mpr (okp y hy).1, (okp y hy).2.1⟩⟩,
        ⟨.inr ⟨d, rfl, s9 d _ (s78 d _ hd7)⟩, ndc, by have := lQ ndc fun y hy => (okc y hy).1; omega, fun y hy => ⟨pmN.mem_iff.mpr (okc y hy).1, (okc y hy).2.1⟩⟩, fun H9 SA W9 kp9 => ⟨rfl, ?_⟩⟩
      have s89 : Same H8 H9 := fun y o e => kp9 y o (s9 y o e) (ne_of_none e nx2)
      have s79 := s78.trans s89
      have S9 : StOf CS C H9 x2 B Pp Qp Qc := stOf_new SA good pB pP so (fun y hy => (okp y hy).2.1) fun y hy => (okc y hy).2.1
      have sm9 := sm7.trans s79
      have hP9 := hP7.same s79
      have ha9 := s79 a _ ha7
      have hb9 := s79 b _ hb7
      have hc9 := s79 c _ hc7
      have hd9 := s79 d _ hd7
      clear s79 s78 s89 s8 s9 hP7 sm7 W8 W9 kp8 kp9 N SA
      have sB : ∀ z ∈ nms B, Sm 25 z := fun z hz => by
        obtain ⟨u, hu', e⟩ := List.mem_map.mp hz
        rw [← (show u.1 = z from e)]; exact (wf.rb u hu').1.sm.mono (by decide)
      have subC : ∀ y ∈ Qc, y.1 ∈ nms B := fun y hy => (okc y hy).1
      clear okp okc
      -- the turns
      refine ⟨.ref p, rfl, p, 6, rfl, hP9, by decide, by decide, fun many H10 k10 hP10 many0 many1 => ?_⟩
      have n10 := NL.of_kp hP9 k10
      refine ⟨many, rfl, by omega, by omega, ?_⟩
      refine for_it walk_range (fun j σ H3 => ∃ (s d : Addr) (Qc : Br) (y8 y9 y10 y11 y12 : Option V), σ = [some (.ref a0), some (.int (0 + (i : Int))), some (.ref p), some (.ref a), some (.ref b), some (.ref c), some (.ref d), some (.ref s), y8, y9, y10, y11, y12] ∧
          Same H H3 ∧ PotAt H3 p ∧ H3 a = some (.dK (bk B)) ∧ H3 b = some (.dT (pt Pp)) ∧ H3 c = some (.dK (bk Qp)) ∧ H3 d = some (.dK (bk Qc)) ∧ StOf CS C H3 s B Pp Qp Qc ∧ (nms Qc).Nodup ∧ (∀ y ∈ Qc, y.1 ∈ nms B) ∧ a ≠ d ∧ ∀ x ∈ nms B, 0 ≤ val0 Qc x ∧ val0 Qc x ≤ bnd j)
        ⟨x2, d, Qc, _, _, _, _, _, rfl, Same.kp sm9 npH k10, hP10, n10.dk ha9, n10.dt hb9, n10.dk hc9, n10.dk hd9, S9.nl n10, ndc, subC, nad, vC⟩ (fun _ _ _ _ _ => trivial) ?_ ?_
      · clear vC S9 sm9 hP9 ha9 hb9 hc9 hd9 hd7 hc7 hb7 ha7 nad ndc subC
        rintro j v σ G3 G3' hj ⟨s, d, Qc, z8, z9, z10, z11, z12, rfl, gm, hP3', ha3, hb3, hc3, hd3, S3, ndQ, subQ, nad3, bQ⟩ ⟨rfl, rfl⟩
        have hj6 : j < 6 := by omega
        -- those that can
        refine ⟨.ref a, rfl, a, _, nms B, rfl, .inl ha3, ?_, by rw [nms_len]; omega, fun ys e pm so ne => ?_⟩
        · unfold bk nms
          rw [List.map_map, List.map_map]; rfl
        have s4 := same_new (o := .lst (ys.map V.str)) ne
        have lY : ys.length ≤ 12 := by rw [pm.length_eq, nms_len]; exact lB
        refine ⟨e, rfl, ⟨_, SqL.of upd_same⟩, fun D nD => ?_⟩
        refine keep_lc (K := K) (b := fun z => decide (val0 B z ≤ waterOf B Pp Qp Qc z)) (by omega) upd_same nD (fun _ => rfl) (fun _ => rfl) (fun z H2 R mz sm r => ?_) (fun G5 hD5 s5 => ?_)
        · have mzB := pm.mem_iff.mp mz
          obtain ⟨bz, gz⟩ := getB_some mzB
          have sA := s4.trans sm
          refine ⟨.ref a, rfl, .ref b, rfl, .ref c, rfl, .ref d, rfl, .str z, rfl, a, b, c, d, B, Pp, Qp, Qc, z, rfl, .inl (sA a _ ha3), sA b _ hb3, sA c _ hc3, sA d _ hd3, wf, mzB, fun H4 s4' => ?_⟩
          refine ⟨.ref a, rfl, .str z, rfl, a, .int bz, rfl, .inl ⟨_, Sum.inr z, .inl (s4' a _ (sA a _ ha3)), rfl, by rw [valV_bk, gz]; rfl⟩, _, _, rfl, rfl, _, rfl, ?_⟩
          have := r H4 s4'
          rw [show val0 B z = bz by unfold val0; rw [gz]; rfl] at this
          exact this
        obtain ⟨L, hL⟩ : ∃ L, L = ys.filter fun z => decide (val0 B z ≤ waterOf B Pp Qp Qc z) := ⟨_, rfl⟩
        rw [← hL] at hD5
        have s35 := s4.trans s5
        have hDp : D ≠ p := (hP3'.same s4).ne nD
        have nL : ∀ z ∈ L, Sm 25 z := fun z hz => by
          rw [hL] at hz
          exact sB z (pm.mem_iff.mp (List.mem_filter.mp hz).1)
        have lL : L.length ≤ 12 := by
          rw [hL]
          exact Nat.le_trans (List.length_filter_le _ _) lY
        refine ⟨.ref D, rfl, Nat.zero_le _, fun e6 ne6 => ?_⟩
        have s6 : Same G5 (upd G5 e6 (.lst [])) := same_new ne6
        have hD6 := s6 D _ hD5
        refine ne_nil hD6 upd_same nL ?_
        have s36 := s35.trans s6
        obtain ⟨G6, hG6⟩ : ∃ G6, G6 = upd G5 e6 (.lst []) := ⟨_, rfl⟩
        rw [← hG6] at hD6 s36 ⊢
        clear s6 hG6 s4 s5 s35 hD5
        have n36 := NL.of_same s36
        have gm6 := gm.trans s36
        have hP6 := hP3'.same s36
        refine ⟨_, rfl, ite2 (fun cc => ?_) (fun cc => ?_)⟩
        · have hL0 : 0 < L.length := List.length_pos_iff.mpr fun z => by subst z; exact absurd cc (by decide)
          refine ⟨.ref D, rfl, .ref p, rfl, .ref D, rfl, D, _, rfl, .inl (SqL.of hD6), p, _, rfl, hP6, by rw [List.length_map]; omega, by rw [List.length_map]; omega, fun dd G7 k7 hP7 dd0 dd1 => ?_⟩
          rw [List.length_map] at dd1
          obtain ⟨z, hz, mzL⟩ := str_at dd0 dd1
          rw [hL] at mzL
          obtain ⟨mzY, mpos⟩ := List.mem_filter.mp mzL
          have wz : val0 B z ≤ waterOf B Pp Qp Qc z := of_decide_eq_true mpos
          have mz : z ∈ nms B := pm.mem_iff.mp mzY
          obtain ⟨bz, gz⟩ := getB_some mz
          have eb : val0 B z = bz := by unfold val0; rw [gz]; rfl
          have rb := brim_pos wf mz
          rw [eb] at rb wz
          refine ⟨D, _, dd, .str z, rfl, rfl, SqL.of (k7 D _ hDp hD6), hz, ?_⟩
          have n37 := n36.trans (NL.of_kp hP6 k7)
          have gm7 := Same.kp gm6 npH k7
          -- most
          refine ⟨.ref a, rfl, .ref b, rfl, .ref c, rfl, .ref d, rfl, .str z, rfl, a, b, c, d, B, Pp, Qp, Qc, z, rfl, .inl (n37.dk ha3), n37.dt hb3, n37.dk hc3, n37.dk hd3, wf, mz, fun G8 s8 => ?_⟩
          have n38 := n37.trans (NL.of_same s8)
          refine ⟨.ref a, rfl, .str z, rfl, a, .int bz, rfl, .inl ⟨_, Sum.inr z, .inl (n38.dk ha3), rfl, by rw [valV_bk, gz]; rfl⟩, _, _, rfl, rfl, ⟨by omega, by omega⟩, ?_⟩
          have m1 : 1 ≤ waterOf B Pp Qp Qc z / bz := by
            have := Int.ediv_le_ediv (show 0 < bz by omega) wz
            rw [Int.ediv_self (by omega)] at this
            exact this
          have em : waterOf B Pp Qp Qc z / bz = mostOf B Pp Qp Qc z := by
            unfold mostOf
            rw [eb, if_pos (by omega)]
          have bn0 : 0 ≤ bnd j := Int.le_trans (by decide) (bnd_low j)
          have mh : mostOf B Pp Qp Qc z ≤ 10 ^ 38 + 60 * bnd j := most_le good mz bn0 bQ (vP z) (by decide)
          have hb6 := bnd_high hj6
          obtain ⟨mw, hmw⟩ : ∃ mw, mw = waterOf B Pp Qp Qc z / bz := ⟨_, rfl⟩
          rw [← hmw] at m1 em
          have mm9 : mw < 2 ^ 199 := by omega
          show gName 11 (V.int (waterOf B Pp Qp Qc z / bz)) _ _ _
          rw [← hmw]
          have hP8 := hP7.same s8
          -- many
          refine ⟨.ref p, rfl, .int mw, rfl, .int mw, rfl, mw, 20, rfl, line1000 (by show 2 ≤ 1000; decide), fun l9 nl9 => ?_⟩
          have s9 := same_new (o := .lst [.int mw, .int (if (20 : Int) < mw then 20 else mw)]) nl9
          have hlp9 : l9 ≠ p := hP8.ne nl9
          refine ⟨.ref p, rfl, p, 2, rfl, hP8.same s9, by decide, by decide, fun d10 G10 k10' hP10' d100 d101 => ?_⟩
          have ht : ∃ t : Int, atI [V.int mw, V.int (if (20 : Int) < mw then 20 else mw)] d10 = some (.int t) ∧ 1 ≤ t ∧ t ≤ mw := by
            have : d10 = 0 ∨ d10 = 1 := by omega
            rcases this with rfl | rfl
            · exact ⟨mw, atI_nat (j := 0) rfl, m1, Int.le_refl _⟩
            · refine ⟨_, atI_nat (j := 1) rfl, ?_, ?_⟩
              · split <;> omega
              · split <;> omega
          obtain ⟨t0, hat, t01, t0m⟩ := ht
          refine ⟨l9, _, d10, .int t0, rfl, rfl, SqL.of (k10' l9 _ hlp9 upd_same), hat, p, t0, rfl, hP10', by omega, by omega, fun d11 G11 k11 hP11 d110 d111 => ?_⟩
          refine ⟨1, d11, rfl, rfl, ?_⟩
          have n311 := n38.trans ((NL.of_same s9).trans ((NL.of_kp (hP8.same s9) k10').trans (NL.of_kp hP10' k11)))
          have gm11 := Same.kp (Same.kp (gm7.trans (s8.trans s9)) npH k10') npH k11
          have tm1 : 1 ≤ 1 + d11 := by omega
          have tm2 : 1 + d11 ≤ mostOf B Pp Qp Qc z := by omega
          have S11 := S3.nl n311
          -- most_spills, is_spilled
          refine ⟨.ref s, rfl, .str z, rfl, s, B, Pp, Qp, Qc, z, rfl, S11, good, mz, fun G12 s12 => ⟨.int mw, rfl, rfl, _, rfl, iteNS (by rw [em]) ?_⟩⟩
          refine ⟨.ref p, rfl, .ref s, rfl, .str z, rfl, .int mw, rfl, .int (1 + d11), rfl, p, s, z, 1 + d11, B, Pp, Qp, Qc, (by rw [← em]; rfl), hP11.same s12, S11.same s12, good, mz, tm1, tm2, by omega, fun G13 k13 hP13 => ⟨true, rfl, iteF ?_⟩⟩
          have n313 := n311.trans ((NL.of_same s12).trans (NL.of_kp (hP11.same s12) k13))
          have gm13 := Same.kp (gm11.trans s12) npH k13
          have S13 := S3.nl n313
          -- waters
          obtain ⟨dx8, n8, i1, i2, hs8⟩ := S13.ins
          obtain ⟨B8, P8, Qp8, Qc8, SA8, g8, fp8, fc8, pm8, so8, eW8⟩ := S13.waters
          refine ⟨.ref s, rfl, s, dx8, _, rfl, hs8, sf_no, s, B8, P8, Qp8, Qc8, rfl, SA8, g8, fp8, fc8, fun G14 w1 s14 nw1 hw1 => ?_⟩
          rw [eW8] at hw1
          have n314 := n313.trans (NL.of_same s14)
          refine ⟨.ref a, rfl, .ref b, rfl, .ref c, rfl, .ref d, rfl, a, b, c, d, B, Pp, Qp, Qc, rfl, n314.dk ha3, n314.dt hb3, n314.dk hc3, n314.dk hd3, nac, nad3, good, fun w2 G15 s15 nw2 hw2 => ?_⟩
          obtain ⟨la, lm⟩ := dicts_alike (f := waterOf B Pp Qp Qc) wf.nb pm8
          refine ⟨w1, w2, _, _, rfl, rfl, s15 w1 _ hw1, hw2, la, lm, false, rfl, iteF ?_⟩
          have n315 := n314.trans (NL.of_same s15)
          have s1315 := s14.trans s15
          -- spilled, more
          refine ⟨.ref s, rfl, .str z, rfl, .int (1 + d11), rfl, s, B, Pp, Qp, Qc, z, 1 + d11, rfl, S3.nl n315, good, mz, tm1, tm2, fun G16 s2 s16 ns2 St _ => ?_⟩
          have n316 := n315.trans (NL.of_same s16)
          refine ⟨.ref d, rfl, .str z, rfl, .int (1 + d11), rfl, d, z, 1 + d11, Qc, rfl, n316.dk hd3, lQ ndQ subQ, fun d2 G17 s17 nd2 hd17 => ?_⟩
          have n317 := n316.trans (NL.of_same s17)
          have bQ2 : ∀ x ∈ nms B, 0 ≤ val0 (putB Qc z (val0 Qc z + (1 + d11))) x ∧ val0 (putB Qc z (val0 Qc z + (1 + d11))) x ≤ bnd (j + 1) := fun x hx => by
            rw [putB_more x hx, bnd_next]
            have h1 := bQ x hx
            have h2 := bnd_low j
            have h3 : (10 : Int) ^ 38 ≤ 2 ^ 130 := by decide
            have h4 : (0 : Int) ≤ 2 ^ 130 := by decide
            split <;> omega
          have subQ2 : ∀ y ∈ putB Qc z (val0 Qc z + (1 + d11)), y.1 ∈ nms B := fun y hy => by
            have my : y.1 ∈ nms (putB Qc z (val0 Qc z + (1 + d11))) := List.mem_map.mpr ⟨y, hy, rfl⟩
            rw [putB_nms] at my
            have sub : ∀ x ∈ nms Qc, x ∈ nms B := fun x hx => by
              obtain ⟨u, hu', e⟩ := List.mem_map.mp hx
              rw [← (show u.1 = x from e)]; exact subQ u hu'
            by_cases h : z ∈ nms Qc
            · rw [if_pos h] at my; exact sub _ my
            · rw [if_neg h] at my
              rcases List.mem_append.mp my with h2 | h2
              · exact sub _ h2
              · have : y.1 = z := by simpa using h2
                rw [this]; exact mz
          exact ⟨s2, d2, _, _, _, _, _, _, rfl, gm13.trans (s1315.trans (s16.trans s17)), hP13.same (s1315.trans (s16.trans s17)), n317.dk ha3, n317.dt hb3, n317.dk hc3, hd17, (St _ putB_more).same s17, putB_nd ndQ, subQ2, ne_of_none (n316.dk ha3) nd2, bQ2⟩
        · refine ⟨s, d, Qc, _, _, _, _, _, rfl, gm6, hP6, n36.dk ha3, n36.dt hb3, n36.dk hc3, n36.dk hd3, S3.nl n36, ndQ, subQ, nad3, fun x hx => ?_⟩
          have h1 := bQ x hx
          have h2 := bnd_low j
          have h4 : (0 : Int) ≤ 2 ^ 130 := by decide
          rw [bnd_next]
          omega
      · clear vC S9 sm9 hP9 ha9 hb9 hc9 hd9 hd7 hc7 hb7 ha7 nad ndc subC
        rintro σ G3 ⟨s, d, Qc, z8, z9, z10, z11, z12, rfl, gm, hP3', ha3, hb3, hc3, hd3, S3, ndQ, subQ, nad3, bQ⟩
        obtain ⟨dx8, n8, i1, i2, hs8⟩ := S3.ins
        obtain ⟨B8, P8, Qp8, Qc8, SA8, g8, fp8, fc8, pm8, so8, eW8⟩ := S3.waters
        refine ⟨.ref s, rfl, s, dx8, _, rfl, hs8, sf_no, s, B8, P8, Qp8, Qc8, rfl, SA8, g8, fp8, fc8, fun G14 w1 s14 nw1 hw1 => ?_⟩
        rw [eW8] at hw1
        refine ⟨.ref a, rfl, .ref b, rfl, .ref c, rfl, .ref d, rfl, a, b, c, d, B, Pp, Qp, Qc, rfl, s14 a _ ha3, s14 b _ hb3, s14 c _ hc3, s14 d _ hd3, nac, nad3, good, fun w2 G15 s15 nw2 hw2 => ?_⟩
        obtain ⟨la, lm⟩ := dicts_alike (f := waterOf B Pp Qp Qc) wf.nb pm8
        refine ⟨w1, w2, _, _, rfl, rfl, s15 w1 _ hw1, hw2, la, lm, false, rfl, iteF ?_⟩
        have s315 := s14.trans s15
        have S15 := S3.same s315
        obtain ⟨dx9, n9, j1, j2, hs9⟩ := S15.ins
        obtain ⟨B9, P9, Qp9, Qc9, SA9, nd9, ln9, pm9, so9, eC9⟩ := S15.counts
        refine ⟨.ref s, rfl, s, dx9, _, rfl, hs9, sf_no, s, B9, P9, Qp9, Qc9, rfl, SA9, nd9, ln9, fun G16 c1 s16 nc1 hc1 => ?_⟩
        rw [eC9] at hc1
        have s316 := s315.trans s16
        refine pairs_lc (K := K) (ja := 3) (jv := 10) (val0 Qc) wf.lb (s316 a _ ha3) rfl (fun _ => rfl) (fun _ => rfl) (fun u od H2 R hm sm r => ?_) fun D as G17 s17 nD hD17 hP17 => ?_
        · have hdu := same_off sm (Ne.symm nad3) (s316 d _ hd3)
          refine ⟨.ref d, rfl, d, rfl, .inl ⟨_, .inl hdu⟩, .str u.1, rfl, _, .inl ⟨_, Sum.inr u.1, .inl hdu, rfl, rfl⟩, ?_⟩
          rw [valV_bk, getD_val]
          exact r H2 (Same.refl _)
        refine ⟨D, as, bk (mapN (nms B) (val0 Qc)), rfl, SqL.of hD17, paired_of hP17, fun t nt => ?_⟩
        have ndN : (nms (mapN (nms B) (val0 Qc))).Nodup := by unfold mapN; rw [nms_map]; exact wf.nb
        have em : mergeK [] (bk (mapN (nms B) (val0 Qc))) = bk (mapN (nms B) (val0 Qc)) := merge_bk _ [] ndN
        rw [em]
        have s18 := same_new (o := .dK (bk (mapN (nms B) (val0 Qc)))) nt
        obtain ⟨la2, lm2⟩ := dicts_alike (f := val0 Qc) wf.nb pm9
        refine ⟨c1, t, _, _, rfl, rfl, s18 c1 _ (s17 c1 _ hc1), upd_same, la2, lm2, false, rfl, iteF ?_⟩
        exact ⟨_, _, _, _, _, _, _, _, _, _, _, _, rfl, gm.trans (s316.trans (s17.trans s18))⟩
    · rintro σ H2 ⟨y1, y2, y3, y4, y5, y6, y7, y8, y9, y10, y11, y12, rfl, sm⟩
      exact q H2
end
end Nl
end
section
namespace Nl
open PySem PySem.Spec PyProof.Rows L2
theorem walk {l : PySem.W.OpenLaw} {q : Program} {loose : List Str} {XP : (Str → Option Value) → Heap → Prop} {YP : World → Heap → Prop} {d : DefRec} {K : Params → PySem.W.Frag} (hn : l.most = some 63) (hdf : d.params.defaults = [])
    (hY : ∀ (w : World) (h : Heap), YP w h → (K w.params).In h)
    (F : ∀ (w : World) (mg : Str → Option Value) (fa : Addr) (h : Heap), (K w.params).In h → h.Ns mainGlobals mg → mg d.name = some (.ref fa) →
      ∃ fd : FuncData, (∀ (s : Shared) (u : Value), BindsTo s fd ⟨[u], []⟩ [("_law_script", u)]) ∧ ∀ base : Heap, (K w.params).In base → base.Ns mainGlobals mg → FnOk l.prog w (K w.params) mg base CX0 12 fa fd ["_law_script"] (spLaw (K w.params))) :
    PySem.W.WalkO q loose XP YP l.row.toRowW d [] (fun f vs => PySem.call f vs) :=
  L2.walk_of (n := 63) (k := 12) (x := "_law_script") (CX := fun _ => CX0) (sp := fun w => spLaw (K w.params)) hn (by decide) hdf ⟨rfl, by decide, by decide⟩ hY F (fun _ _ a ns hl _ hS => ⟨a, ns, rfl, hS, hl, fun _ => rfl⟩) fun _ _ _ _ _ z => z
end Nl
end
section
set_option maxHeartbeats 1000000
namespace Nl
open PySem PySem.Spec PyProof.Rows L2 Nt
/-- a def of the text, as the top has left it -/
structure Left (K : PySem.W.Frag) (x : Str) (st : Stmt) (f : Addr) (oc : Value) (od an : Option Addr) (sl : Array (Option Value)) (kV dc pm cd ct : Value) : Prop where
  at_ : PySem.W.nsIn K mainGlobals x = some (some (.ref f))
  lk : K.lookup f = some ⟨oc, od, .func (PySem.W.fnOf x x (defArgs st) (defBody st) (defScope st) .none kV dc pm an cd ct), sl⟩
  co : PySem.W.codeIn K cd x = true
  kp : PySem.W.keepIn K (.ref f) = true
/-- a method -/
structure LeftM (K : PySem.W.Frag) (C : Addr) (m qual : Str) (st : Stmt) (f : Addr) (oc : Value) (od an : Option Addr) (sl : Array (Option Value)) (kV dc pm cd ct : Value) : Prop where
  at_ : PySem.W.findIn K (.ref C) m = some (some (.ref f))
  fn : PySem.W.isFn K (.ref f) = true
  lk : K.lookup f = some ⟨oc, od, .func (PySem.W.fnOf m qual (defArgs st) (defBody st) (defScope st) .none kV dc pm an cd ct), sl⟩
  co : PySem.W.codeIn K cd qual = true
  kp : PySem.W.keepIn K (.ref f) = true
/-- an __init__ with defaults -/
structure LeftI (K : PySem.W.Frag) (C : Addr) (qual : Str) (st : Stmt) (its : List Value) (f T : Addr) (oc ocT : Value) (od odT an : Option Addr) (sl slT : Array (Option Value)) (kV dc pm cd ct : Value) (nT : Nat) : Prop where
  at_ : PySem.W.findIn K (.ref C) "__init__" = some (some (.ref f))
  fn : PySem.W.isFn K (.ref f) = true
  lk : K.lookup f = some ⟨oc, od, .func (PySem.W.fnOf "__init__" qual (defArgs st) (defBody st) (defScope st) (.ref T) kV dc pm an cd ct), sl⟩
  co : PySem.W.codeIn K cd qual = true
  kp : PySem.W.keepIn K (.ref f) = true
  lt : K.lookup T = some ⟨ocT, odT, .seq its.toArray nT, slT⟩
/-- a def with one default, the int 1 -/
structure LeftF (K : PySem.W.Frag) (x : Str) (st : Stmt) (f T : Addr) (oc ocT : Value) (od odT an : Option Addr) (sl slT : Array (Option Value)) (kV dc pm cd ct : Value) (nT : Nat) (tk : Tok) : Prop where
  at_ : PySem.W.nsIn K mainGlobals x = some (some (.ref f))
  lk : K.lookup f = some ⟨oc, od, .func (PySem.W.fnOf x x (defArgs st) (defBody st) (defScope st) (.ref T) kV dc pm an cd ct), sl⟩
  co : PySem.W.codeIn K cd x = true
  kp : PySem.W.keepIn K (.ref f) = true
  lt : K.lookup T = some ⟨ocT, odT, .seq [Value.int 1 tk].toArray nT, slT⟩
structure LeftC (K : PySem.W.Frag) (x : Str) (C : Addr) : Prop where
  at_ : PySem.W.nsIn K mainGlobals x = some (some (.ref C))
  pg : PySem.W.plainGet K C Str.empty = true
  hd : PySem.W.hasDictIn K C = true
  po : PySem.W.plainOver K C = true
  sa : PySem.W.findIn K (.ref C) "__setattr__" = some (some (.builtin "object.__setattr__"))
  ma : PySem.W.makesIn K C = true
  kc : PySem.W.keepIn K (.ref C) = true
section
variable {K : PySem.W.Frag}
theorem LeftI.fun {C : Addr} {qual : Str} {st : Stmt} {its : List Value} {f T : Addr} {oc ocT : Value} {od odT an : Option Addr} {sl slT : Array (Option Value)} {kV dc pm cd ct : Value} {nT : Nat} (h : LeftI K C qual st its f T oc ocT od odT an sl slT kV dc pm cd ct nT) {dvs : List V} (ne : dvs ≠ []) (r : Vals dvs its) :
    FunD K "__init__" qual (defArgs st) (defBody st) (defScope st) dvs [] f (PySem.W.fnOf "__init__" qual (defArgs st) (defBody st) (defScope st) (.ref T) kV dc pm an cd ct) :=
  ⟨⟨oc, od, _, kV, dc, pm, an, cd, ct, sl, rfl, h.lk, h.co, .inr ⟨ne, T, _, its, nT, rfl, h.lt, rfl, r⟩, .inl rfl⟩, h.kp⟩
theorem LeftF.fun {x : Str} {st : Stmt} {f T : Addr} {oc ocT : Value} {od odT an : Option Addr} {sl slT : Array (Option Value)} {kV dc pm cd ct : Value} {nT : Nat} {tk : Tok} (h : LeftF K x st f T oc ocT od odT an sl slT kV dc pm cd ct nT tk) :
    FunD K x x (defArgs st) (defBody st) (defScope st) [.int 1] [] f (PySem.W.fnOf x x (defArgs st) (defBody st) (defScope st) (.ref T) kV dc pm an cd ct) :=
  ⟨⟨oc, od, _, kV, dc, pm, an, cd, ct, sl, rfl, h.lk, h.co, .inr ⟨by simp, T, _, [Value.int 1 tk], nT, rfl, h.lt, rfl, .cons ⟨tk, rfl⟩ .nil⟩, .inl rfl⟩, h.kp⟩
end
theorem all_test {l : PySem.W.OpenLaw} {w : World} {K : PySem.W.Frag} {h : Heap} {mg : Str → Option Value} {C CS fa : Addr} (X : K.In h) (G : h.Ns mainGlobals mg) (hfa : mg "law" = some (.ref fa))
    {f_whole : Addr} {oc_whole kV_whole dc_whole pm_whole cd_whole ct_whole : Value} {od_whole an_whole : Option Addr} {sl_whole : Array (Option Value)}
    {f_name : Addr} {oc_name kV_name dc_name pm_name cd_name ct_name : Value} {od_name an_name : Option Addr} {sl_name : Array (Option Value)}
    {f_meas : Addr} {oc_meas kV_meas dc_meas pm_meas cd_meas ct_meas : Value} {od_meas an_meas : Option Addr} {sl_meas : Array (Option Value)}
    {f_pondOf : Addr} {oc_pondOf kV_pondOf dc_pondOf pm_pondOf cd_pondOf ct_pondOf : Value} {od_pondOf an_pondOf : Option Addr} {sl_pondOf : Array (Option Value)}
    {f_pairOf : Addr} {oc_pairOf kV_pairOf dc_pairOf pm_pairOf cd_pairOf ct_pairOf : Value} {od_pairOf an_pairOf : Option Addr} {sl_pairOf : Array (Option Value)}
    {f_goes : Addr} {oc_goes kV_goes dc_goes pm_goes cd_goes ct_goes : Value} {od_goes an_goes : Option Addr} {sl_goes : Array (Option Value)}
    {f_comes : Addr} {oc_comes kV_comes dc_comes pm_comes cd_comes ct_comes : Value} {od_comes an_comes : Option Addr} {sl_comes : Array (Option Value)}
    {f_steps : Addr} {oc_steps kV_steps dc_steps pm_steps cd_steps ct_steps : Value} {od_steps an_steps : Option Addr} {sl_steps : Array (Option Value)}
    {f_pOut : Addr} {oc_pOut kV_pOut dc_pOut pm_pOut cd_pOut ct_pOut : Value} {od_pOut an_pOut : Option Addr} {sl_pOut : Array (Option Value)}
    {f_pIn : Addr} {oc_pIn kV_pIn dc_pIn pm_pIn cd_pIn ct_pIn : Value} {od_pIn an_pIn : Option Addr} {sl_pIn : Array (Option Value)}
    {f_ckPonds : Addr} {oc_ckPonds kV_ckPonds dc_ckPonds pm_ckPonds cd_ckPonds ct_ckPonds : Value} {od_ckPonds an_ckPonds : Option Addr} {sl_ckPonds : Array (Option Value)}
    {f_ckPipes : Addr} {oc_ckPipes kV_ckPipes dc_ckPipes pm_ckPipes cd_ckPipes ct_ckPipes : Value} {od_ckPipes an_ckPipes : Option Addr} {sl_ckPipes : Array (Option Value)}
    {f_ckSides : Addr} {oc_ckSides kV_ckSides dc_ckSides pm_ckSides cd_ckSides ct_ckSides : Value} {od_ckSides an_ckSides : Option Addr} {sl_ckSides : Array (Option Value)}
    {f_ckWays : Addr} {oc_ckWays kV_ckWays dc_ckWays pm_ckWays cd_ckWays ct_ckWays : Value} {od_ckWays an_ckWays : Option Addr} {sl_ckWays : Array (Option Value)}
    {f_wrong : Addr} {oc_wrong kV_wrong dc_wrong pm_wrong cd_wrong ct_wrong : Value} {od_wrong an_wrong : Option Addr} {sl_wrong : Array (Option Value)}
    {f_forAll : Addr} {oc_forAll kV_forAll dc_forAll pm_forAll cd_forAll ct_forAll : Value} {od_forAll an_forAll : Option Addr} {sl_forAll : Array (Option Value)}
    {f_pot : Addr} {oc_pot kV_pot dc_pot pm_pot cd_pot ct_pot : Value} {od_pot an_pot : Option Addr} {sl_pot : Array (Option Value)}
    {f_draw : Addr} {oc_draw kV_draw dc_draw pm_draw cd_draw ct_draw : Value} {od_draw an_draw : Option Addr} {sl_draw : Array (Option Value)}
    {f_lname : Addr} {oc_lname kV_lname dc_lname pm_lname cd_lname ct_lname : Value} {od_lname an_lname : Option Addr} {sl_lname : Array (Option Value)}
    {f_closed : Addr} {oc_closed kV_closed dc_closed pm_closed cd_closed ct_closed : Value} {od_closed an_closed : Option Addr} {sl_closed : Array (Option Value)}
    {f_room : Addr} {oc_room kV_room dc_room pm_room cd_room ct_room : Value} {od_room an_room : Option Addr} {sl_room : Array (Option Value)}
    {f_lnet : Addr} {oc_lnet kV_lnet dc_lnet pm_lnet cd_lnet ct_lnet : Value} {od_lnet an_lnet : Option Addr} {sl_lnet : Array (Option Value)}
    {f_some : Addr} {oc_some kV_some dc_some pm_some cd_some ct_some : Value} {od_some an_some : Option Addr} {sl_some : Array (Option Value)}
    {f_lwater : Addr} {oc_lwater kV_lwater dc_lwater pm_lwater cd_lwater ct_lwater : Value} {od_lwater an_lwater : Option Addr} {sl_lwater : Array (Option Value)}
    {f_lwaters : Addr} {oc_lwaters kV_lwaters dc_lwaters pm_lwaters cd_lwaters ct_lwaters : Value} {od_lwaters an_lwaters : Option Addr} {sl_lwaters : Array (Option Value)}
    {f_more : Addr} {oc_more kV_more dc_more pm_more cd_more ct_more : Value} {od_more an_more : Option Addr} {sl_more : Array (Option Value)}
    {f_oneBy : Addr} {oc_oneBy kV_oneBy dc_oneBy pm_oneBy cd_oneBy ct_oneBy : Value} {od_oneBy an_oneBy : Option Addr} {sl_oneBy : Array (Option Value)}
    {f_isSpilled : Addr} {oc_isSpilled kV_isSpilled dc_isSpilled pm_isSpilled cd_isSpilled ct_isSpilled : Value} {od_isSpilled an_isSpilled : Option Addr} {sl_isSpilled : Array (Option Value)}
    {f_law : Addr} {oc_law kV_law dc_law pm_law cd_law ct_law : Value} {od_law an_law : Option Addr} {sl_law : Array (Option Value)}
    {f_most : Addr} {oc_most kV_most dc_most pm_most cd_most ct_most : Value} {od_most an_most : Option Addr} {sl_most : Array (Option Value)}
    {f_ckTimes : Addr} {oc_ckTimes kV_ckTimes dc_ckTimes pm_ckTimes cd_ckTimes ct_ckTimes : Value} {od_ckTimes an_ckTimes : Option Addr} {sl_ckTimes : Array (Option Value)}
    {f_can : Addr} {oc_can kV_can dc_can pm_can cd_can ct_can : Value} {od_can an_can : Option Addr} {sl_can : Array (Option Value)} {T_can : Addr} {ocT_can : Value} {odT_can : Option Addr} {slT_can : Array (Option Value)} {nT_can : Nat} {tkd_can : Tok}
    {f_spilled : Addr} {oc_spilled kV_spilled dc_spilled pm_spilled cd_spilled ct_spilled : Value} {od_spilled an_spilled : Option Addr} {sl_spilled : Array (Option Value)} {T_spilled : Addr} {ocT_spilled : Value} {odT_spilled : Option Addr} {slT_spilled : Array (Option Value)} {nT_spilled : Nat} {tkd_spilled : Tok}
    {f_has : Addr} {oc_has kV_has dc_has pm_has cd_has ct_has : Value} {od_has an_has : Option Addr} {sl_has : Array (Option Value)}
    {f_chk : Addr} {oc_chk kV_chk dc_chk pm_chk cd_chk ct_chk : Value} {od_chk an_chk : Option Addr} {sl_chk : Array (Option Value)}
    {f_ponds : Addr} {oc_ponds kV_ponds dc_ponds pm_ponds cd_ponds ct_ponds : Value} {od_ponds an_ponds : Option Addr} {sl_ponds : Array (Option Value)}
    {f_brim : Addr} {oc_brim kV_brim dc_brim pm_brim cd_brim ct_brim : Value} {od_brim an_brim : Option Addr} {sl_brim : Array (Option Value)}
    {f_ins : Addr} {oc_ins kV_ins dc_ins pm_ins cd_ins ct_ins : Value} {od_ins an_ins : Option Addr} {sl_ins : Array (Option Value)}
    {f_brims : Addr} {oc_brims kV_brims dc_brims pm_brims cd_brims ct_brims : Value} {od_brims an_brims : Option Addr} {sl_brims : Array (Option Value)}
    {f_pipes : Addr} {oc_pipes kV_pipes dc_pipes pm_pipes cd_pipes ct_pipes : Value} {od_pipes an_pipes : Option Addr} {sl_pipes : Array (Option Value)}
    {f_snet : Addr} {oc_snet kV_snet dc_snet pm_snet cd_snet ct_snet : Value} {od_snet an_snet : Option Addr} {sl_snet : Array (Option Value)}
    {f_poured : Addr} {oc_poured kV_poured dc_poured pm_poured cd_poured ct_poured : Value} {od_poured an_poured : Option Addr} {sl_poured : Array (Option Value)}
    {f_count : Addr} {oc_count kV_count dc_count pm_count cd_count ct_count : Value} {od_count an_count : Option Addr} {sl_count : Array (Option Value)}
    {f_water : Addr} {oc_water kV_water dc_water pm_water cd_water ct_water : Value} {od_water an_water : Option Addr} {sl_water : Array (Option Value)}
    {f_pours : Addr} {oc_pours kV_pours dc_pours pm_pours cd_pours ct_pours : Value} {od_pours an_pours : Option Addr} {sl_pours : Array (Option Value)}
    {f_counts : Addr} {oc_counts kV_counts dc_counts pm_counts cd_counts ct_counts : Value} {od_counts an_counts : Option Addr} {sl_counts : Array (Option Value)}
    {f_waters : Addr} {oc_waters kV_waters dc_waters pm_waters cd_waters ct_waters : Value} {od_waters an_waters : Option Addr} {sl_waters : Array (Option Value)}
    {f_nEq : Addr} {oc_nEq kV_nEq dc_nEq pm_nEq cd_nEq ct_nEq : Value} {od_nEq an_nEq : Option Addr} {sl_nEq : Array (Option Value)}
    {f_sEq : Addr} {oc_sEq kV_sEq dc_sEq pm_sEq cd_sEq ct_sEq : Value} {od_sEq an_sEq : Option Addr} {sl_sEq : Array (Option Value)}
    {f_nI : Addr} {oc_nI kV_nI dc_nI pm_nI cd_nI ct_nI : Value} {od_nI an_nI : Option Addr} {sl_nI : Array (Option Value)} {T_nI : Addr} {ocT_nI : Value} {odT_nI : Option Addr} {slT_nI : Array (Option Value)} {nT_nI : Nat}
    {f_sI : Addr} {oc_sI kV_sI dc_sI pm_sI cd_sI ct_sI : Value} {od_sI an_sI : Option Addr} {sl_sI : Array (Option Value)} {T_sI : Addr} {ocT_sI : Value} {odT_sI : Option Addr} {slT_sI : Array (Option Value)} {nT_sI : Nat}
    {tk_0 : Tok}
    {tk_1 : Tok}
    {tk_2 : Tok}
    {tk_3 : Tok}
    (L_whole : Left K "is_whole" sWhole f_whole oc_whole od_whole an_whole sl_whole kV_whole dc_whole pm_whole cd_whole ct_whole)
    (L_name : Left K "is_name" sName f_name oc_name od_name an_name sl_name kV_name dc_name pm_name cd_name ct_name)
    (L_meas : Left K "is_measure" sMeas f_meas oc_meas od_meas an_meas sl_meas kV_meas dc_meas pm_meas cd_meas ct_meas)
    (L_pondOf : Left K "is_pond_of" sPondOf f_pondOf oc_pondOf od_pondOf an_pondOf sl_pondOf kV_pondOf dc_pondOf pm_pondOf cd_pondOf ct_pondOf)
    (L_pairOf : Left K "is_pair_of" sPairOf f_pairOf oc_pairOf od_pairOf an_pairOf sl_pairOf kV_pairOf dc_pairOf pm_pairOf cd_pairOf ct_pairOf)
    (L_goes : Left K "goes_out" sGoes f_goes oc_goes od_goes an_goes sl_goes kV_goes dc_goes pm_goes cd_goes ct_goes)
    (L_comes : Left K "comes_in" sComes f_comes oc_comes od_comes an_comes sl_comes kV_comes dc_comes pm_comes cd_comes ct_comes)
    (L_steps : Left K "steps_out" sSteps f_steps oc_steps od_steps an_steps sl_steps kV_steps dc_steps pm_steps cd_steps ct_steps)
    (L_pOut : Left K "pipes_out" sPipesOut f_pOut oc_pOut od_pOut an_pOut sl_pOut kV_pOut dc_pOut pm_pOut cd_pOut ct_pOut)
    (L_pIn : Left K "pipes_in" sPipesIn f_pIn oc_pIn od_pIn an_pIn sl_pIn kV_pIn dc_pIn pm_pIn cd_pIn ct_pIn)
    (L_ckPonds : Left K "check_ponds" sCkPonds f_ckPonds oc_ckPonds od_ckPonds an_ckPonds sl_ckPonds kV_ckPonds dc_ckPonds pm_ckPonds cd_ckPonds ct_ckPonds)
    (L_ckPipes : Left K "check_pipes" sCkPipes f_ckPipes oc_ckPipes od_ckPipes an_ckPipes sl_ckPipes kV_ckPipes dc_ckPipes pm_ckPipes cd_ckPipes ct_ckPipes)
    (L_ckSides : Left K "check_sides" sCkSides f_ckSides oc_ckSides od_ckSides an_ckSides sl_ckSides kV_ckSides dc_ckSides pm_ckSides cd_ckSides ct_ckSides)
    (L_ckWays : Left K "check_ways" sCkWays f_ckWays oc_ckWays od_ckWays an_ckWays sl_ckWays kV_ckWays dc_ckWays pm_ckWays cd_ckWays ct_ckWays)
    (L_wrong : Left K "wrong_keys" sWrong f_wrong oc_wrong od_wrong an_wrong sl_wrong kV_wrong dc_wrong pm_wrong cd_wrong ct_wrong)
    (L_forAll : Left K "for_all_ponds" sForAll f_forAll oc_forAll od_forAll an_forAll sl_forAll kV_forAll dc_forAll pm_forAll cd_forAll ct_forAll)
    (L_pot : Left K "_law_pot" sPot f_pot oc_pot od_pot an_pot sl_pot kV_pot dc_pot pm_pot cd_pot ct_pot)
    (L_draw : Left K "_law_draw" sDraw f_draw oc_draw od_draw an_draw sl_draw kV_draw dc_draw pm_draw cd_draw ct_draw)
    (L_lname : Left K "_law_name" sLName f_lname oc_lname od_lname an_lname sl_lname kV_lname dc_lname pm_lname cd_lname ct_lname)
    (L_closed : Left K "_law_closed" sClosed f_closed oc_closed od_closed an_closed sl_closed kV_closed dc_closed pm_closed cd_closed ct_closed)
    (L_room : Left K "_law_room" sRoom f_room oc_room od_room an_room sl_room kV_room dc_room pm_room cd_room ct_room)
    (L_lnet : Left K "_law_net" sNet f_lnet oc_lnet od_lnet an_lnet sl_lnet kV_lnet dc_lnet pm_lnet cd_lnet ct_lnet)
    (L_some : Left K "_law_some" sSome f_some oc_some od_some an_some sl_some kV_some dc_some pm_some cd_some ct_some)
    (L_lwater : Left K "_law_water" sLWater f_lwater oc_lwater od_lwater an_lwater sl_lwater kV_lwater dc_lwater pm_lwater cd_lwater ct_lwater)
    (L_lwaters : Left K "_law_waters" sLWaters f_lwaters oc_lwaters od_lwaters an_lwaters sl_lwaters kV_lwaters dc_lwaters pm_lwaters cd_lwaters ct_lwaters)
    (L_more : Left K "_law_more" sMore f_more oc_more od_more an_more sl_more kV_more dc_more pm_more cd_more ct_more)
    (L_oneBy : Left K "_law_one_by_one" sOneBy f_oneBy oc_oneBy od_oneBy an_oneBy sl_oneBy kV_oneBy dc_oneBy pm_oneBy cd_oneBy ct_oneBy)
    (L_isSpilled : Left K "_law_is_spilled" sIsSpilled f_isSpilled oc_isSpilled od_isSpilled an_isSpilled sl_isSpilled kV_isSpilled dc_isSpilled pm_isSpilled cd_isSpilled ct_isSpilled)
    (L_law : Left K "law" sLaw f_law oc_law od_law an_law sl_law kV_law dc_law pm_law cd_law ct_law)
    (L_most : Left K "most_spills" sMost f_most oc_most od_most an_most sl_most kV_most dc_most pm_most cd_most ct_most)
    (L_ckTimes : Left K "check_times" sCkTimes f_ckTimes oc_ckTimes od_ckTimes an_ckTimes sl_ckTimes kV_ckTimes dc_ckTimes pm_ckTimes cd_ckTimes ct_ckTimes)
    (L_can : LeftF K "can_spill" sCan f_can T_can oc_can ocT_can od_can odT_can an_can sl_can slT_can kV_can dc_can pm_can cd_can ct_can nT_can tkd_can)
    (L_spilled : LeftF K "spilled" sSpilled f_spilled T_spilled oc_spilled ocT_spilled od_spilled odT_spilled an_spilled sl_spilled slT_spilled kV_spilled dc_spilled pm_spilled cd_spilled ct_spilled nT_spilled tkd_spilled)
    (LC : LeftC K "Net" C) (LCS : LeftC K "Stand" CS)
    (L_has : LeftM K C "has_pond" "Net.has_pond" mNet_has_pond f_has oc_has od_has an_has sl_has kV_has dc_has pm_has cd_has ct_has)
    (L_chk : LeftM K C "check_pond" "Net.check_pond" mNet_check_pond f_chk oc_chk od_chk an_chk sl_chk kV_chk dc_chk pm_chk cd_chk ct_chk)
    (L_ponds : LeftM K C "ponds" "Net.ponds" mNet_ponds f_ponds oc_ponds od_ponds an_ponds sl_ponds kV_ponds dc_ponds pm_ponds cd_ponds ct_ponds)
    (L_brim : LeftM K C "brim" "Net.brim" mNet_brim f_brim oc_brim od_brim an_brim sl_brim kV_brim dc_brim pm_brim cd_brim ct_brim)
    (L_ins : LeftM K C "ins" "Net.ins" mNet_ins f_ins oc_ins od_ins an_ins sl_ins kV_ins dc_ins pm_ins cd_ins ct_ins)
    (L_brims : LeftM K C "brims" "Net.brims" mNet_brims f_brims oc_brims od_brims an_brims sl_brims kV_brims dc_brims pm_brims cd_brims ct_brims)
    (L_pipes : LeftM K C "pipes" "Net.pipes" mNet_pipes f_pipes oc_pipes od_pipes an_pipes sl_pipes kV_pipes dc_pipes pm_pipes cd_pipes ct_pipes)
    (L_snet : LeftM K CS "net" "Stand.net" mStand_net f_snet oc_snet od_snet an_snet sl_snet kV_snet dc_snet pm_snet cd_snet ct_snet)
    (L_poured : LeftM K CS "poured" "Stand.poured" mStand_poured f_poured oc_poured od_poured an_poured sl_poured kV_poured dc_poured pm_poured cd_poured ct_poured)
    (L_count : LeftM K CS "count" "Stand.count" mStand_count f_count oc_count od_count an_count sl_count kV_count dc_count pm_count cd_count ct_count)
    (L_water : LeftM K CS "water" "Stand.water" mStand_water f_water oc_water od_water an_water sl_water kV_water dc_water pm_water cd_water ct_water)
    (L_pours : LeftM K CS "pours" "Stand.pours" mStand_pours f_pours oc_pours od_pours an_pours sl_pours kV_pours dc_pours pm_pours cd_pours ct_pours)
    (L_counts : LeftM K CS "counts" "Stand.counts" mStand_counts f_counts oc_counts od_counts an_counts sl_counts kV_counts dc_counts pm_counts cd_counts ct_counts)
    (L_waters : LeftM K CS "waters" "Stand.waters" mStand_waters f_waters oc_waters od_waters an_waters sl_waters kV_waters dc_waters pm_waters cd_waters ct_waters)
    (L_nEq : LeftM K C "__eq__" "Net.__eq__" mNet_eq f_nEq oc_nEq od_nEq an_nEq sl_nEq kV_nEq dc_nEq pm_nEq cd_nEq ct_nEq)
    (L_sEq : LeftM K CS "__eq__" "Stand.__eq__" mStand_eq f_sEq oc_sEq od_sEq an_sEq sl_sEq kV_sEq dc_sEq pm_sEq cd_sEq ct_sEq)
    (L_nI : LeftI K C "Net.__init__" mNet_init [.none] f_nI T_nI oc_nI ocT_nI od_nI odT_nI an_nI sl_nI slT_nI kV_nI dc_nI pm_nI cd_nI ct_nI nT_nI)
    (L_sI : LeftI K CS "Stand.__init__" mStand_init [.none, .none] f_sI T_sI oc_sI ocT_sI od_sI odT_sI an_sI sl_sI slT_sI kV_sI dc_sI pm_sI cd_sI ct_sI nT_sI)
    (n_0 : PySem.W.findIn K (.ref C) "brim_by_pond" = some none)
    (n_1 : PySem.W.findIn K (.ref C) "width_by_pair" = some none)
    (n_2 : PySem.W.findIn K (.ref C) "outs_by_pond" = some none)
    (n_3 : PySem.W.findIn K (.ref C) "ins_by_pond" = some none)
    (n_4 : PySem.W.findIn K (.ref CS) "own_net" = some none)
    (n_5 : PySem.W.findIn K (.ref CS) "poured_by_pond" = some none)
    (n_6 : PySem.W.findIn K (.ref CS) "count_by_pond" = some none)
    (i_ha : PySem.W.findIn K (.ref C) "__class__" = some (some (.builtin "object.__class__")))
    (i_haS : PySem.W.findIn K (.ref CS) "__class__" = some (some (.builtin "object.__class__")))
    (i_hn : PySem.W.specialIn K (.builtin "object.__class__") "__get__" = some (some (.builtin "getset_descriptor.__get__")))
    (i_htk : PySem.W.takesIn K (.builtin "object.__class__") = some true)
    (i_hm : PySem.W.mroIn K C (.type "object") = some true)
    (i_hmS : PySem.W.mroIn K CS (.type "object") = some true)
    (z_isinstance : PySem.W.nsIn K mainGlobals "isinstance" = some none)
    (z_int : PySem.W.nsIn K mainGlobals "int" = some none)
    (z_bool : PySem.W.nsIn K mainGlobals "bool" = some none)
    (z_str : PySem.W.nsIn K mainGlobals "str" = some none)
    (z_len : PySem.W.nsIn K mainGlobals "len" = some none)
    (z_all : PySem.W.nsIn K mainGlobals "all" = some none)
    (z_tuple : PySem.W.nsIn K mainGlobals "tuple" = some none)
    (z_sum : PySem.W.nsIn K mainGlobals "sum" = some none)
    (z_sorted : PySem.W.nsIn K mainGlobals "sorted" = some none)
    (z_dict : PySem.W.nsIn K mainGlobals "dict" = some none)
    (z_list : PySem.W.nsIn K mainGlobals "list" = some none)
    (z_divmod : PySem.W.nsIn K mainGlobals "divmod" = some none)
    (z_max : PySem.W.nsIn K mainGlobals "max" = some none)
    (z_abs : PySem.W.nsIn K mainGlobals "abs" = some none)
    (z_range : PySem.W.nsIn K mainGlobals "range" = some none)
    (z_min : PySem.W.nsIn K mainGlobals "min" = some none)
    (c_0 : PySem.W.nsIn K mainGlobals "MOST_LETTERS" = some (some (.int 8 tk_0)))
    (c_1 : PySem.W.nsIn K mainGlobals "LETTERS" = some (some (.str abc tk_1)))
    (c_2 : PySem.W.nsIn K mainGlobals "MOST_BRIM" = some (some (.int 60 tk_2)))
    (c_3 : PySem.W.nsIn K mainGlobals "MOST_PONDS" = some (some (.int 12 tk_3))) :
    ∃ fd : FuncData, (∀ (s : Shared) (v : Value), BindsTo s fd ⟨[v], []⟩ [("_law_script", v)]) ∧ ∀ base : Heap, K.In base → base.Ns mainGlobals mg → FnOk l.prog w K mg base CX0 12 fa fd ["_law_script"] (spLaw K) := by
  have e := hfa.symm.trans (PySem.W.mg_of X G L_law.at_)
  cases e
  have F_whole := fun_mk (st := sWhole) L_whole.lk L_whole.co L_whole.kp
  have b_whole := F_whole.binds (ps := ["thing", "least"]) fun _ _ _ _ _ _ us hl => match us, hl with | [_, _], _ => rfl
  have g_whole := PySem.W.mg_of X G L_whole.at_
  have F_name := fun_mk (st := sName) L_name.lk L_name.co L_name.kp
  have b_name := F_name.binds (ps := ["thing"]) fun _ _ _ _ _ _ us hl => match us, hl with | [_], _ => rfl
  have g_name := PySem.W.mg_of X G L_name.at_
  have F_meas := fun_mk (st := sMeas) L_meas.lk L_meas.co L_meas.kp
  have b_meas := F_meas.binds (ps := ["thing"]) fun _ _ _ _ _ _ us hl => match us, hl with | [_], _ => rfl
  have g_meas := PySem.W.mg_of X G L_meas.at_
  have F_pondOf := fun_mk (st := sPondOf) L_pondOf.lk L_pondOf.co L_pondOf.kp
  have b_pondOf := F_pondOf.binds (ps := ["brims", "thing"]) fun _ _ _ _ _ _ us hl => match us, hl with | [_, _], _ => rfl
  have g_pondOf := PySem.W.mg_of X G L_pondOf.at_
  have F_pairOf := fun_mk (st := sPairOf) L_pairOf.lk L_pairOf.co L_pairOf.kp
  have b_pairOf := F_pairOf.binds (ps := ["brims", "thing"]) fun _ _ _ _ _ _ us hl => match us, hl with | [_, _], _ => rfl
  have g_pairOf := PySem.W.mg_of X G L_pairOf.at_
  have F_goes := fun_mk (st := sGoes) L_goes.lk L_goes.co L_goes.kp
  have b_goes := F_goes.binds (ps := ["pipes", "name"]) fun _ _ _ _ _ _ us hl => match us, hl with | [_, _], _ => rfl
  have g_goes := PySem.W.mg_of X G L_goes.at_
  have F_comes := fun_mk (st := sComes) L_comes.lk L_comes.co L_comes.kp
  have b_comes := F_comes.binds (ps := ["pipes", "name"]) fun _ _ _ _ _ _ us hl => match us, hl with | [_, _], _ => rfl
  have g_comes := PySem.W.mg_of X G L_comes.at_
  have F_steps := fun_mk (st := sSteps) L_steps.lk L_steps.co L_steps.kp
  have b_steps := F_steps.binds (ps := ["brims", "pipes"]) fun _ _ _ _ _ _ us hl => match us, hl with | [_, _], _ => rfl
  have g_steps := PySem.W.mg_of X G L_steps.at_
  have F_pOut := fun_mk (st := sPipesOut) L_pOut.lk L_pOut.co L_pOut.kp
  have b_pOut := F_pOut.binds (ps := ["pipes", "name"]) fun _ _ _ _ _ _ us hl => match us, hl with | [_, _], _ => rfl
  have g_pOut := PySem.W.mg_of X G L_pOut.at_
  have F_pIn := fun_mk (st := sPipesIn) L_pIn.lk L_pIn.co L_pIn.kp
  have b_pIn := F_pIn.binds (ps := ["pipes", "name"]) fun _ _ _ _ _ _ us hl => match us, hl with | [_, _], _ => rfl
  have g_pIn := PySem.W.mg_of X G L_pIn.at_
  have F_ckPonds := fun_mk (st := sCkPonds) L_ckPonds.lk L_ckPonds.co L_ckPonds.kp
  have b_ckPonds := F_ckPonds.binds (ps := ["brims"]) fun _ _ _ _ _ _ us hl => match us, hl with | [_], _ => rfl
  have g_ckPonds := PySem.W.mg_of X G L_ckPonds.at_
  have F_ckPipes := fun_mk (st := sCkPipes) L_ckPipes.lk L_ckPipes.co L_ckPipes.kp
  have b_ckPipes := F_ckPipes.binds (ps := ["brims", "pipes"]) fun _ _ _ _ _ _ us hl => match us, hl with | [_, _], _ => rfl
  have g_ckPipes := PySem.W.mg_of X G L_ckPipes.at_
  have F_ckSides := fun_mk (st := sCkSides) L_ckSides.lk L_ckSides.co L_ckSides.kp
  have b_ckSides := F_ckSides.binds (ps := ["brims", "pipes"]) fun _ _ _ _ _ _ us hl => match us, hl with | [_, _], _ => rfl
  have g_ckSides := PySem.W.mg_of X G L_ckSides.at_
  have F_ckWays := fun_mk (st := sCkWays) L_ckWays.lk L_ckWays.co L_ckWays.kp
  have b_ckWays := F_ckWays.binds (ps := ["brims", "pipes"]) fun _ _ _ _ _ _ us hl => match us, hl with | [_, _], _ => rfl
  have g_ckWays := PySem.W.mg_of X G L_ckWays.at_
  have F_wrong := fun_mk (st := sWrong) L_wrong.lk L_wrong.co L_wrong.kp
  have b_wrong := F_wrong.binds (ps := ["net", "table"]) fun _ _ _ _ _ _ us hl => match us, hl with | [_, _], _ => rfl
  have g_wrong := PySem.W.mg_of X G L_wrong.at_
  have F_forAll := fun_mk (st := sForAll) L_forAll.lk L_forAll.co L_forAll.kp
  have b_forAll := F_forAll.binds (ps := ["net", "table"]) fun _ _ _ _ _ _ us hl => match us, hl with | [_, _], _ => rfl
  have g_forAll := PySem.W.mg_of X G L_forAll.at_
  have F_pot := fun_mk (st := sPot) L_pot.lk L_pot.co L_pot.kp
  have b_pot := F_pot.binds (ps := ["_law_script", "_law_k"]) fun _ _ _ _ _ _ us hl => match us, hl with | [_, _], _ => rfl
  have g_pot := PySem.W.mg_of X G L_pot.at_
  have F_draw := fun_mk (st := sDraw) L_draw.lk L_draw.co L_draw.kp
  have b_draw := F_draw.binds (ps := ["_law_pot_here", "_law_many"]) fun _ _ _ _ _ _ us hl => match us, hl with | [_, _], _ => rfl
  have g_draw := PySem.W.mg_of X G L_draw.at_
  have F_lname := fun_mk (st := sLName) L_lname.lk L_lname.co L_lname.kp
  have b_lname := F_lname.binds (ps := ["_law_pot_here", "_law_taken"]) fun _ _ _ _ _ _ us hl => match us, hl with | [_, _], _ => rfl
  have g_lname := PySem.W.mg_of X G L_lname.at_
  have F_closed := fun_mk (st := sClosed) L_closed.lk L_closed.co L_closed.kp
  have b_closed := F_closed.binds (ps := ["_law_wide", "_law_joins"]) fun _ _ _ _ _ _ us hl => match us, hl with | [_, _], _ => rfl
  have g_closed := PySem.W.mg_of X G L_closed.at_
  have F_room := fun_mk (st := sRoom) L_room.lk L_room.co L_room.kp
  have b_room := F_room.binds (ps := ["_law_wide", "_law_joins", "_law_one", "_law_other"]) fun _ _ _ _ _ _ us hl => match us, hl with | [_, _, _, _], _ => rfl
  have g_room := PySem.W.mg_of X G L_room.at_
  have F_lnet := fun_mk (st := sNet) L_lnet.lk L_lnet.co L_lnet.kp
  have b_lnet := F_lnet.binds (ps := ["_law_pot_here", "_law_most", "_law_high"]) fun _ _ _ _ _ _ us hl => match us, hl with | [_, _, _], _ => rfl
  have g_lnet := PySem.W.mg_of X G L_lnet.at_
  have F_some := fun_mk (st := sSome) L_some.lk L_some.co L_some.kp
  have b_some := F_some.binds (ps := ["_law_pot_here", "_law_wide", "_law_far"]) fun _ _ _ _ _ _ us hl => match us, hl with | [_, _, _], _ => rfl
  have g_some := PySem.W.mg_of X G L_some.at_
  have F_lwater := fun_mk (st := sLWater) L_lwater.lk L_lwater.co L_lwater.kp
  have b_lwater := F_lwater.binds (ps := ["_law_wide", "_law_joins", "_law_poured", "_law_counts", "_law_one"]) fun _ _ _ _ _ _ us hl => match us, hl with | [_, _, _, _, _], _ => rfl
  have g_lwater := PySem.W.mg_of X G L_lwater.at_
  have F_lwaters := fun_mk (st := sLWaters) L_lwaters.lk L_lwaters.co L_lwaters.kp
  have b_lwaters := F_lwaters.binds (ps := ["_law_wide", "_law_joins", "_law_poured", "_law_counts"]) fun _ _ _ _ _ _ us hl => match us, hl with | [_, _, _, _], _ => rfl
  have g_lwaters := PySem.W.mg_of X G L_lwaters.at_
  have F_more := fun_mk (st := sMore) L_more.lk L_more.co L_more.kp
  have b_more := F_more.binds (ps := ["_law_counts", "_law_one", "_law_many"]) fun _ _ _ _ _ _ us hl => match us, hl with | [_, _, _], _ => rfl
  have g_more := PySem.W.mg_of X G L_more.at_
  have F_oneBy := fun_mk (st := sOneBy) L_oneBy.lk L_oneBy.co L_oneBy.kp
  have b_oneBy := F_oneBy.binds (ps := ["_law_stand", "_law_one", "_law_many"]) fun _ _ _ _ _ _ us hl => match us, hl with | [_, _, _], _ => rfl
  have g_oneBy := PySem.W.mg_of X G L_oneBy.at_
  have F_isSpilled := fun_mk (st := sIsSpilled) L_isSpilled.lk L_isSpilled.co L_isSpilled.kp
  have b_isSpilled := F_isSpilled.binds (ps := ["_law_pot_here", "_law_stand", "_law_one", "_law_most", "_law_many"]) fun _ _ _ _ _ _ us hl => match us, hl with | [_, _, _, _, _], _ => rfl
  have g_isSpilled := PySem.W.mg_of X G L_isSpilled.at_
  have F_law := fun_mk (st := sLaw) L_law.lk L_law.co L_law.kp
  have b_law := F_law.binds (ps := ["_law_script"]) fun _ _ _ _ _ _ us hl => match us, hl with | [_], _ => rfl
  have g_law := PySem.W.mg_of X G L_law.at_
  have F_most := fun_mk (st := sMost) L_most.lk L_most.co L_most.kp
  have b_most := F_most.binds (ps := ["stand", "name"]) fun _ _ _ _ _ _ us hl => match us, hl with | [_, _], _ => rfl
  have g_most := PySem.W.mg_of X G L_most.at_
  have F_ckTimes := fun_mk (st := sCkTimes) L_ckTimes.lk L_ckTimes.co L_ckTimes.kp
  have b_ckTimes := F_ckTimes.binds (ps := ["times"]) fun _ _ _ _ _ _ us hl => match us, hl with | [_], _ => rfl
  have g_ckTimes := PySem.W.mg_of X G L_ckTimes.at_
  have F_has := fun_mk (st := mNet_has_pond) L_has.lk L_has.co L_has.kp
  have b_has := F_has.binds (ps := ["self", "thing"]) fun _ _ _ _ _ _ us hl => match us, hl with | [_, _], _ => rfl
  have m_has : Meth K C "has_pond" f_has := ⟨L_has.at_, L_has.fn, L_has.kp⟩
  have F_chk := fun_mk (st := mNet_check_pond) L_chk.lk L_chk.co L_chk.kp
  have b_chk := F_chk.binds (ps := ["self", "thing"]) fun _ _ _ _ _ _ us hl => match us, hl with | [_, _], _ => rfl
  have m_chk : Meth K C "check_pond" f_chk := ⟨L_chk.at_, L_chk.fn, L_chk.kp⟩
  have F_ponds := fun_mk (st := mNet_ponds) L_ponds.lk L_ponds.co L_ponds.kp
  have b_ponds := F_ponds.binds (ps := ["self"]) fun _ _ _ _ _ _ us hl => match us, hl with | [_], _ => rfl
  have m_ponds : Meth K C "ponds" f_ponds := ⟨L_ponds.at_, L_ponds.fn, L_ponds.kp⟩
  have F_brim := fun_mk (st := mNet_brim) L_brim.lk L_brim.co L_brim.kp
  have b_brim := F_brim.binds (ps := ["self", "name"]) fun _ _ _ _ _ _ us hl => match us, hl with | [_, _], _ => rfl
  have m_brim : Meth K C "brim" f_brim := ⟨L_brim.at_, L_brim.fn, L_brim.kp⟩
  have F_ins := fun_mk (st := mNet_ins) L_ins.lk L_ins.co L_ins.kp
  have b_ins := F_ins.binds (ps := ["self", "name"]) fun _ _ _ _ _ _ us hl => match us, hl with | [_, _], _ => rfl
  have m_ins : Meth K C "ins" f_ins := ⟨L_ins.at_, L_ins.fn, L_ins.kp⟩
  have F_brims := fun_mk (st := mNet_brims) L_brims.lk L_brims.co L_brims.kp
  have b_brims := F_brims.binds (ps := ["self"]) fun _ _ _ _ _ _ us hl => match us, hl with | [_], _ => rfl
  have m_brims : Meth K C "brims" f_brims := ⟨L_brims.at_, L_brims.fn, L_brims.kp⟩
  have F_pipes := fun_mk (st := mNet_pipes) L_pipes.lk L_pipes.co L_pipes.kp
  have b_pipes := F_pipes.binds (ps := ["self"]) fun _ _ _ _ _ _ us hl => match us, hl with | [_], _ => rfl
  have m_pipes : Meth K C "pipes" f_pipes := ⟨L_pipes.at_, L_pipes.fn, L_pipes.kp⟩
  have F_snet := fun_mk (st := mStand_net) L_snet.lk L_snet.co L_snet.kp
  have b_snet := F_snet.binds (ps := ["self"]) fun _ _ _ _ _ _ us hl => match us, hl with | [_], _ => rfl
  have m_snet : Meth K CS "net" f_snet := ⟨L_snet.at_, L_snet.fn, L_snet.kp⟩
  have F_poured := fun_mk (st := mStand_poured) L_poured.lk L_poured.co L_poured.kp
  have b_poured := F_poured.binds (ps := ["self", "name"]) fun _ _ _ _ _ _ us hl => match us, hl with | [_, _], _ => rfl
  have m_poured : Meth K CS "poured" f_poured := ⟨L_poured.at_, L_poured.fn, L_poured.kp⟩
  have F_count := fun_mk (st := mStand_count) L_count.lk L_count.co L_count.kp
  have b_count := F_count.binds (ps := ["self", "name"]) fun _ _ _ _ _ _ us hl => match us, hl with | [_, _], _ => rfl
  have m_count : Meth K CS "count" f_count := ⟨L_count.at_, L_count.fn, L_count.kp⟩
  have F_water := fun_mk (st := mStand_water) L_water.lk L_water.co L_water.kp
  have b_water := F_water.binds (ps := ["self", "name"]) fun _ _ _ _ _ _ us hl => match us, hl with | [_, _], _ => rfl
  have m_water : Meth K CS "water" f_water := ⟨L_water.at_, L_water.fn, L_water.kp⟩
  have F_pours := fun_mk (st := mStand_pours) L_pours.lk L_pours.co L_pours.kp
  have b_pours := F_pours.binds (ps := ["self"]) fun _ _ _ _ _ _ us hl => match us, hl with | [_], _ => rfl
  have m_pours : Meth K CS "pours" f_pours := ⟨L_pours.at_, L_pours.fn, L_pours.kp⟩
  have F_counts := fun_mk (st := mStand_counts) L_counts.lk L_counts.co L_counts.kp
  have b_counts := F_counts.binds (ps := ["self"]) fun _ _ _ _ _ _ us hl => match us, hl with | [_], _ => rfl
  have m_counts : Meth K CS "counts" f_counts := ⟨L_counts.at_, L_counts.fn, L_counts.kp⟩
  have F_waters := fun_mk (st := mStand_waters) L_waters.lk L_waters.co L_waters.kp
  have b_waters := F_waters.binds (ps := ["self"]) fun _ _ _ _ _ _ us hl => match us, hl with | [_], _ => rfl
  have m_waters : Meth K CS "waters" f_waters := ⟨L_waters.at_, L_waters.fn, L_waters.kp⟩
  have F_nEq := fun_mk (st := mNet_eq) L_nEq.lk L_nEq.co L_nEq.kp
  have b_nEq := F_nEq.binds (ps := ["self", "other"]) fun _ _ _ _ _ _ us hl => match us, hl with | [_, _], _ => rfl
  have m_nEq : Meth K C "__eq__" f_nEq := ⟨L_nEq.at_, L_nEq.fn, L_nEq.kp⟩
  have F_sEq := fun_mk (st := mStand_eq) L_sEq.lk L_sEq.co L_sEq.kp
  have b_sEq := F_sEq.binds (ps := ["self", "other"]) fun _ _ _ _ _ _ us hl => match us, hl with | [_, _], _ => rfl
  have m_sEq : Meth K CS "__eq__" f_sEq := ⟨L_sEq.at_, L_sEq.fn, L_sEq.kp⟩
  have x_isinstance := PySem.W.mg_none_of X G z_isinstance
  have x_int := PySem.W.mg_none_of X G z_int
  have x_bool := PySem.W.mg_none_of X G z_bool
  have x_str := PySem.W.mg_none_of X G z_str
  have x_len := PySem.W.mg_none_of X G z_len
  have x_all := PySem.W.mg_none_of X G z_all
  have x_tuple := PySem.W.mg_none_of X G z_tuple
  have x_sum := PySem.W.mg_none_of X G z_sum
  have x_sorted := PySem.W.mg_none_of X G z_sorted
  have x_dict := PySem.W.mg_none_of X G z_dict
  have x_list := PySem.W.mg_none_of X G z_list
  have x_divmod := PySem.W.mg_none_of X G z_divmod
  have x_max := PySem.W.mg_none_of X G z_max
  have x_abs := PySem.W.mg_none_of X G z_abs
  have x_range := PySem.W.mg_none_of X G z_range
  have x_min := PySem.W.mg_none_of X G z_min
  have w_0 := PySem.W.mg_of X G c_0
  have w_1 := PySem.W.mg_of X G c_1
  have w_2 := PySem.W.mg_of X G c_2
  have w_3 := PySem.W.mg_of X G c_3
  have T : TxN K mg C := ⟨⟨LC.pg, LC.hd, LC.po, LC.sa⟩, n_0, n_1, n_2, n_3, PySem.W.mg_of X G LC.at_⟩
  have TS : TxS K mg CS := ⟨⟨LCS.pg, LCS.hd, LCS.po, LCS.sa⟩, n_4, n_5, n_6, PySem.W.mg_of X G LCS.at_⟩
  have MN : Mk K C f_nI := ⟨LC.ma, L_nI.at_, L_nI.fn, LC.kc⟩
  have MS : Mk K CS f_sI := ⟨LCS.ma, L_sI.at_, L_sI.fn, LCS.kc⟩
  have F_nI := L_nI.fun (dvs := [.non]) (by simp) (.cons rfl .nil)
  have F_sI := L_sI.fun (dvs := [.non, .non]) (by simp) (.cons rfl (.cons rfl .nil))
  obtain ⟨ds_n, v_n, b_n⟩ := F_nI.binds1 (ps := ["self", "brims", "pipes"]) 3 1 (by simp) rfl (fun T kV doc pm an cdv ct us its hu hi => match us, its, hu, hi with | [_, _, _], [_], _, _ => ⟨_, rfl, rfl⟩)
  obtain ⟨ds_s3, v_s3, b_s3⟩ := F_sI.binds1 (ps := ["self", "net", "poured", "counts"]) 4 2 (by simp) rfl (fun T kV doc pm an cdv ct us its hu hi => match us, its, hu, hi with | [_, _, _, _], [_, _], _, _ => ⟨_, rfl, rfl⟩)
  obtain ⟨ds_s2, v_s2, b_s2⟩ := F_sI.binds1 (ps := ["self", "net", "poured", "counts"]) 3 1 (by simp) rfl (fun T kV doc pm an cdv ct us its hu hi => match us, its, hu, hi with | [_, _, _], [_, _], _, _ => ⟨_, rfl, rfl⟩)
  obtain ⟨ds_s1, v_s1, b_s1⟩ := F_sI.binds1 (ps := ["self", "net", "poured", "counts"]) 2 0 (by simp) rfl (fun T kV doc pm an cdv ct us its hu hi => match us, its, hu, hi with | [_, _], [_, _], _, _ => ⟨_, rfl, rfl⟩)
  have F_can := L_can.fun
  have g_can := PySem.W.mg_of X G L_can.at_
  obtain ⟨ds3_can, v3_can, b3_can⟩ := F_can.binds1 (ps := ["stand", "name", "times"]) 3 1 (by simp) rfl (fun T kV doc pm an cdv ct us its hu hi => match us, its, hu, hi with | [_, _, _], [_], _, _ => ⟨_, rfl, rfl⟩)
  obtain ⟨ds2_can, v2_can, b2_can⟩ := F_can.binds1 (ps := ["stand", "name", "times"]) 2 0 (by simp) rfl (fun T kV doc pm an cdv ct us its hu hi => match us, its, hu, hi with | [_, _], [_], _, _ => ⟨_, rfl, rfl⟩)
  have v3_can : Vals [] ds3_can := v3_can
  have v2_can : Vals [.int 1] ds2_can := v2_can
  cases v3_can
  have F_spilled := L_spilled.fun
  have g_spilled := PySem.W.mg_of X G L_spilled.at_
  obtain ⟨ds3_spilled, v3_spilled, b3_spilled⟩ := F_spilled.binds1 (ps := ["stand", "name", "times"]) 3 1 (by simp) rfl (fun T kV doc pm an cdv ct us its hu hi => match us, its, hu, hi with | [_, _, _], [_], _, _ => ⟨_, rfl, rfl⟩)
  obtain ⟨ds2_spilled, v2_spilled, b2_spilled⟩ := F_spilled.binds1 (ps := ["stand", "name", "times"]) 2 0 (by simp) rfl (fun T kV doc pm an cdv ct us its hu hi => match us, its, hu, hi with | [_, _], [_], _, _ => ⟨_, rfl, rfl⟩)
  have v3_spilled : Vals [] ds3_spilled := v3_spilled
  have v2_spilled : Vals [.int 1] ds2_spilled := v2_spilled
  cases v3_spilled
  have IC : C8.InsC K C := ⟨T.cl, i_ha, i_hn, i_htk, i_hm, if_pos (beq_self_eq_true _)⟩
  have ICS : C8.InsC K CS := ⟨TS.cl, i_haS, i_hn, i_htk, i_hmS, if_pos (beq_self_eq_true _)⟩
  have kb_spilled : KBn K _ ["stand", "name", "times"] 1 ["name", "times"] (fun us ws => us ++ ws) (fun vs zs => vs ++ zs) := kb1 (ps := ["stand", "name", "times"]) F_spilled 1 ["name", "times"] (by simp) (fun T kV doc pm an cdv ct us ws its h1 h2 h3 => match us, ws, its, h1, h2, h3 with | [_], [_, _], [_], _, _, _ => ⟨_, rfl, rfl⟩)
  have v_n : Vals [] ds_n := v_n
  have v_s3 : Vals [] ds_s3 := v_s3
  refine ⟨PySem.W.fnOf "law" "law" (defArgs sLaw) (defBody sLaw) (defScope sLaw) .none kV_law dc_law pm_law an_law cd_law ct_law, fun s v => .of_eq rfl, fun base _ _ => ?_⟩
  have G_whole : FnOk l.prog w K mg base CX0 1 f_whole _ ["thing", "least"] spWhole := ok_whole F_whole x_isinstance x_int x_bool
  have G_name : FnOk l.prog w K mg base CX0 1 f_name _ ["thing"] spName := ok_name F_name x_isinstance x_str x_len x_all w_0 w_1
  have G_meas : FnOk l.prog w K mg base CX0 2 f_meas _ ["thing"] spMeas := ok_meas F_meas F_whole G_whole b_whole g_whole w_2
  have G_pondOf : FnOk l.prog w K mg base CX0 2 f_pondOf _ ["brims", "thing"] spPondOf := ok_pondOf F_pondOf F_name G_name b_name g_name
  have G_pairOf : FnOk l.prog w K mg base CX0 3 f_pairOf _ ["brims", "thing"] spPairOf := ok_pairOf F_pairOf F_pondOf G_pondOf b_pondOf g_pondOf x_isinstance x_tuple x_len
  have G_goes : FnOk l.prog w K mg base CX0 1 f_goes _ ["pipes", "name"] spGoes := ok_goes F_goes x_sum
  have G_comes : FnOk l.prog w K mg base CX0 1 f_comes _ ["pipes", "name"] spComes := ok_comes F_comes x_sum
  have G_steps : FnOk l.prog w K mg base CX0 2 f_steps _ ["brims", "pipes"] spSteps := ok_steps F_steps F_goes G_goes b_goes g_goes x_sorted
  have G_ckPonds : FnOk l.prog w K mg base CX0 3 f_ckPonds _ ["brims"] spCkPonds := ok_ckPonds F_ckPonds F_name G_name b_name g_name F_meas G_meas b_meas g_meas x_len w_3
  have G_ckPipes : FnOk l.prog w K mg base CX0 4 f_ckPipes _ ["brims", "pipes"] (spCk2 fun _ _ => True) := ok_ckPipes F_ckPipes F_pairOf G_pairOf b_pairOf g_pairOf F_meas G_meas b_meas g_meas
  have G_ckSides : FnOk l.prog w K mg base CX0 2 f_ckSides _ ["brims", "pipes"] (spCk2 Fit) := ok_ckSides F_ckSides F_goes G_goes b_goes g_goes F_comes G_comes b_comes g_comes x_sorted
  have G_ckWays : FnOk l.prog w K mg base CX0 3 f_ckWays _ ["brims", "pipes"] (spCk2 fun B Pp => ∀ x ∈ nms B, Opn B Pp x) := ok_ckWays F_ckWays F_steps G_steps b_steps g_steps x_sorted
  have G_pOut : FnOk l.prog w K mg base CX0 1 f_pOut _ ["pipes", "name"] (spSide outsOf) := ok_PipesOut F_pOut
  have G_pIn : FnOk l.prog w K mg base CX0 1 f_pIn _ ["pipes", "name"] (spSide insOf) := ok_PipesIn F_pIn
  have G_nI : FnOk l.prog w K mg base CX0 5 f_nI _ ["self", "brims", "pipes"] (spNInit C) := ok_nInit F_nI T F_ckPonds G_ckPonds b_ckPonds g_ckPonds F_ckPipes G_ckPipes b_ckPipes g_ckPipes F_ckSides G_ckSides b_ckSides g_ckSides F_ckWays G_ckWays b_ckWays g_ckWays F_pOut G_pOut b_pOut g_pOut F_pIn G_pIn b_pIn g_pIn x_isinstance x_dict x_sorted
  have G_has : FnOk l.prog w K mg base CX0 3 f_has _ ["self", "thing"] (spHas C) := ok_has F_has T F_pondOf G_pondOf b_pondOf g_pondOf
  have G_chk : FnOk l.prog w K mg base CX0 4 f_chk _ ["self", "thing"] (spChk C) := ok_chk F_chk T m_has G_has b_has
  have G_ponds : FnOk l.prog w K mg base CX0 1 f_ponds _ ["self"] (spPonds C) := ok_ponds F_ponds T x_list
  have G_brim : FnOk l.prog w K mg base CX0 5 f_brim _ ["self", "name"] (spBrim C) := ok_brim F_brim T m_chk G_chk b_chk
  have G_ins : FnOk l.prog w K mg base CX0 5 f_ins _ ["self", "name"] (spIns C) := ok_ins F_ins T m_chk G_chk b_chk x_list
  have G_brims : FnOk l.prog w K mg base CX0 1 f_brims _ ["self"] (spBrims C) := ok_brims F_brims T
  have G_pipes : FnOk l.prog w K mg base CX0 1 f_pipes _ ["self"] (spPipes C) := ok_pipes F_pipes T
  have G_wrong : FnOk l.prog w K mg base CX0 4 f_wrong _ ["net", "table"] (spWrong C) := ok_wrong F_wrong T m_has G_has b_has F_whole G_whole b_whole g_whole x_isinstance x_dict
  have G_forAll : FnOk l.prog w K mg base CX0 2 f_forAll _ ["net", "table"] (spForAll C) := ok_forAll F_forAll T m_ponds G_ponds b_ponds
  have G_sI : FnOk l.prog w K mg base CX0 5 f_sI _ ["self", "net", "poured", "counts"] (spSInit CS C) := ok_sInit F_sI TS F_wrong G_wrong b_wrong g_wrong F_forAll G_forAll b_forAll g_forAll
  have G_snet : FnOk l.prog w K mg base CX0 1 f_snet _ ["self"] (spSNet CS C) := ok_sNet F_snet TS
  have G_poured : FnOk l.prog w K mg base CX0 5 f_poured _ ["self", "name"] (spPoured CS C) := ok_poured F_poured TS T m_chk G_chk b_chk
  have G_count : FnOk l.prog w K mg base CX0 5 f_count _ ["self", "name"] (spCount CS C) := ok_count F_count TS T m_chk G_chk b_chk
  have G_water : FnOk l.prog w K mg base CX0 6 f_water _ ["self", "name"] (spWater CS C) := ok_water F_water TS T m_ins G_ins b_ins m_brim G_brim b_brim x_sum
  have G_pours : FnOk l.prog w K mg base CX0 1 f_pours _ ["self"] (spPours CS C) := ok_pours F_pours TS
  have G_counts : FnOk l.prog w K mg base CX0 1 f_counts _ ["self"] (spCounts CS C) := ok_counts F_counts TS
  have G_pot : FnOk l.prog w K mg base CX0 1 f_pot _ ["_law_script", "_law_k"] (spPot K) := ok_pot F_pot x_len x_max x_abs
  have G_draw : FnOk l.prog w K mg base CX0 1 f_draw _ ["_law_pot_here", "_law_many"] spDraw := ok_draw F_draw x_divmod
  have G_waters : FnOk l.prog w K mg base CX0 7 f_waters _ ["self"] (spWaters CS C) := ok_waters F_waters TS T m_ponds G_ponds b_ponds m_water G_water b_water
  have G_nEq : FnOk l.prog w K mg base CX0 1 f_nEq _ ["self", "other"] (spEq (NetsEq C)) := ok_nEq F_nEq T IC x_isinstance
  have G_sEq : FnOk l.prog w K mg base CX0 2 f_sEq _ ["self", "other"] (spEq (StandsEq CS C)) := ok_sEq F_sEq T TS ICS G_nEq b_nEq m_nEq x_isinstance
  have G_room : FnOk l.prog w K mg base CX0 1 f_room _ ["_law_wide", "_law_joins", "_law_one", "_law_other"] spRoom := ok_room F_room x_sum x_min
  have G_closed : FnOk l.prog w K mg base CX0 1 f_closed _ ["_law_wide", "_law_joins"] spClosed := ok_closed F_closed x_sum x_sorted x_range x_len x_all
  have G_lname : FnOk l.prog w K mg base CX0 2 f_lname _ ["_law_pot_here", "_law_taken"] spLName := ok_lname F_lname F_draw G_draw b_draw g_draw x_range x_len
  have G_lnet : FnOk l.prog w K mg base CX0 3 f_lnet _ ["_law_pot_here", "_law_most", "_law_high"] spNet := ok_net F_lnet F_draw G_draw b_draw g_draw F_lname G_lname b_lname g_lname F_room G_room b_room g_room F_closed G_closed b_closed g_closed x_range x_len x_min x_sorted
  have G_some : FnOk l.prog w K mg base CX0 2 f_some _ ["_law_pot_here", "_law_wide", "_law_far"] spSome := ok_some F_some F_draw G_draw b_draw g_draw x_sorted
  have G_lwater : FnOk l.prog w K mg base CX0 1 f_lwater _ ["_law_wide", "_law_joins", "_law_poured", "_law_counts", "_law_one"] spLWater := ok_lwater F_lwater x_sum
  have G_lwaters : FnOk l.prog w K mg base CX0 2 f_lwaters _ ["_law_wide", "_law_joins", "_law_poured", "_law_counts"] spLWaters := ok_lwaters F_lwaters F_lwater G_lwater b_lwater g_lwater x_dict
  have G_more : FnOk l.prog w K mg base CX0 1 f_more _ ["_law_counts", "_law_one", "_law_many"] spMore := ok_more F_more x_dict
  have G_most : FnOk l.prog w K mg base CX0 7 f_most _ ["stand", "name"] (spMost CS C) := ok_most F_most T TS m_water G_water b_water m_snet G_snet b_snet m_brim G_brim b_brim x_max
  have G_ckTimes : FnOk l.prog w K mg base CX0 2 f_ckTimes _ ["times"] spCkTimes := ok_ckTimes F_ckTimes F_whole G_whole b_whole g_whole
  have G_can : FnOk l.prog w K mg base CX0 8 f_can _ ["stand", "name", "times"] (spCan CS C) := ok_can F_can F_ckTimes G_ckTimes b_ckTimes g_ckTimes F_most G_most b_most g_most
  have G_spilled : FnOk l.prog w K mg base CX0 9 f_spilled _ ["stand", "name", "times"] (spSpilled CS C) := ok_spilled F_spilled TS G_can L_can.kp b3_can g_can m_counts G_counts b_counts m_snet G_snet b_snet m_pours G_pours b_pours MS G_sI b_s3 v_s3
  have G_oneBy : FnOk l.prog w K mg base CX0 10 f_oneBy _ ["_law_stand", "_law_one", "_law_many"] (spOneBy CS C) := ok_oneBy F_oneBy G_spilled L_spilled.kp b2_spilled v2_spilled g_spilled x_range
  have G_isSpilled : FnOk l.prog w K mg base CX0 11 f_isSpilled _ ["_law_pot_here", "_law_stand", "_law_one", "_law_most", "_law_many"] (spIsSpilled CS C) := ok_isSpilled F_isSpilled TS F_draw G_draw b_draw g_draw G_spilled L_spilled.kp b3_spilled kb_spilled g_spilled G_can L_can.kp b3_can b2_can v2_can g_can F_most G_most b_most g_most F_oneBy G_oneBy b_oneBy g_oneBy G_sEq b_sEq m_sEq m_count G_count b_count x_min
  exact ok_law F_law T TS F_pot G_pot b_pot g_pot F_draw G_draw b_draw g_draw F_lnet G_lnet b_lnet g_lnet F_some G_some b_some g_some F_lwater G_lwater b_lwater g_lwater F_lwaters G_lwaters b_lwaters g_lwaters F_more G_more b_more g_more F_most G_most b_most g_most G_spilled L_spilled.kp b3_spilled g_spilled F_isSpilled G_isSpilled b_isSpilled g_isSpilled m_counts G_counts b_counts m_waters G_waters b_waters MN G_nI b_n v_n MS G_sI b_s3 v_s3 x_range x_max x_min x_len x_sorted x_dict
end Nl
end
open PySem PySem.W PyProof.Rows
set_option maxHeartbeats 0 in
theorem PySem.Challenge.cw_backwater_k25_many_at_once_as_one_by_one_holds : PySem.Challenge.rw_backwater_k25_many_at_once_as_one_by_one.Holds := by
  w_on; o_law; k_head; (case hw => w_witness2)
  k_fill
  refine Nl.walk (l := PySem.Challenge.rw_backwater_k25_many_at_once_as_one_by_one) rfl rfl (fun w h Y => PySem.W.kIn_of Y) ?F
  case F =>
    intro w mg fa h KX G hmg
    refine' Nl.all_test (l := PySem.Challenge.rw_backwater_k25_many_at_once_as_one_by_one) (w := w) KX G hmg ⟨?a_whole, ?l_whole, ?c_whole, ?k_whole⟩ ⟨?a_name, ?l_name, ?c_name, ?k_name⟩ ⟨?a_meas, ?l_meas, ?c_meas, ?k_meas⟩ ⟨?a_pondOf, ?l_pondOf, ?c_pondOf, ?k_pondOf⟩ ⟨?a_pairOf, ?l_pairOf, ?c_pairOf, ?k_pairOf⟩ ⟨?a_goes, ?l_goes, ?c_goes, ?k_goes⟩ ⟨?a_comes, ?l_comes, ?c_comes, ?k_comes⟩ ⟨?a_steps, ?l_steps, ?c_steps, ?k_steps⟩ ⟨?a_pOut, ?l_pOut, ?c_pOut, ?k_pOut⟩ ⟨?a_pIn, ?l_pIn, ?c_pIn, ?k_pIn⟩ ⟨?a_ckPonds, ?l_ckPonds, ?c_ckPonds, ?k_ckPonds⟩ ⟨?a_ckPipes, ?l_ckPipes, ?c_ckPipes, ?k_ckPipes⟩ ⟨?a_ckSides, ?l_ckSides, ?c_ckSides, ?k_ckSides⟩ ⟨?a_ckWays, ?l_ckWays, ?c_ckWays, ?k_ckWays⟩ ⟨?a_wrong, ?l_wrong, ?c_wrong, ?k_wrong⟩ ⟨?a_forAll, ?l_forAll, ?c_forAll, ?k_forAll⟩ ⟨?a_pot, ?l_pot, ?c_pot, ?k_pot⟩ ⟨?a_draw, ?l_draw, ?c_draw, ?k_draw⟩ ⟨?a_lname, ?l_lname, ?c_lname, ?k_lname⟩ ⟨?a_closed, ?l_closed, ?c_closed, ?k_closed⟩ ⟨?a_room, ?l_room, ?c_room, ?k_room⟩ ⟨?a_lnet, ?l_lnet, ?c_lnet, ?k_lnet⟩ ⟨?a_some, ?l_some, ?c_some, ?k_some⟩ ⟨?a_lwater, ?l_lwater, ?c_lwater, ?k_lwater⟩ ⟨?a_lwaters, ?l_lwaters, ?c_lwaters, ?k_lwaters⟩ ⟨?a_more, ?l_more, ?c_more, ?k_more⟩ ⟨?a_oneBy, ?l_oneBy, ?c_oneBy, ?k_oneBy⟩ ⟨?a_isSpilled, ?l_isSpilled, ?c_isSpilled, ?k_isSpilled⟩ ⟨?a_law, ?l_law, ?c_law, ?k_law⟩ ⟨?a_most, ?l_most, ?c_most, ?k_most⟩ ⟨?a_ckTimes, ?l_ckTimes, ?c_ckTimes, ?k_ckTimes⟩ ⟨?a_can, ?l_can, ?c_can, ?k_can, ?t_can⟩ ⟨?a_spilled, ?l_spilled, ?c_spilled, ?k_spilled, ?t_spilled⟩ ⟨?at_C, ?pg_C, ?hd_C, ?po_C, ?sa_C, ?mk_C, ?kc_C⟩ ⟨?at_S, ?pg_S, ?hd_S, ?po_S, ?sa_S, ?mk_S, ?kc_S⟩ ⟨?a_has, ?i_has, ?l_has, ?c_has, ?k_has⟩ ⟨?a_chk, ?i_chk, ?l_chk, ?c_chk, ?k_chk⟩ ⟨?a_ponds, ?i_ponds, ?l_ponds, ?c_ponds, ?k_ponds⟩ ⟨?a_brim, ?i_brim, ?l_brim, ?c_brim, ?k_brim⟩ ⟨?a_ins, ?i_ins, ?l_ins, ?c_ins, ?k_ins⟩ ⟨?a_brims, ?i_brims, ?l_brims, ?c_brims, ?k_brims⟩ ⟨?a_pipes, ?i_pipes, ?l_pipes, ?c_pipes, ?k_pipes⟩ ⟨?a_snet, ?i_snet, ?l_snet, ?c_snet, ?k_snet⟩ ⟨?a_poured, ?i_poured, ?l_poured, ?c_poured, ?k_poured⟩ ⟨?a_count, ?i_count, ?l_count, ?c_count, ?k_count⟩ ⟨?a_water, ?i_water, ?l_water, ?c_water, ?k_water⟩ ⟨?a_pours, ?i_pours, ?l_pours, ?c_pours, ?k_pours⟩ ⟨?a_counts, ?i_counts, ?l_counts, ?c_counts, ?k_counts⟩ ⟨?a_waters, ?i_waters, ?l_waters, ?c_waters, ?k_waters⟩ ⟨?a_nEq, ?i_nEq, ?l_nEq, ?c_nEq, ?k_nEq⟩ ⟨?a_sEq, ?i_sEq, ?l_sEq, ?c_sEq, ?k_sEq⟩ ⟨?a_nI, ?i_nI, ?l_nI, ?c_nI, ?k_nI, ?t_nI⟩ ⟨?a_sI, ?i_sI, ?l_sI, ?c_sI, ?k_sI, ?t_sI⟩ ?n_0 ?n_1 ?n_2 ?n_3 ?n_4 ?n_5 ?n_6 ?i_ha ?i_haS ?i_hn ?i_htk ?i_hm ?i_hmS ?z_isinstance ?z_int ?z_bool ?z_str ?z_len ?z_all ?z_tuple ?z_sum ?z_sorted ?z_dict ?z_list ?z_divmod ?z_max ?z_abs ?z_range ?z_min ?c_0 ?c_1 ?c_2 ?c_3
    (case a_whole => k_is)
    (case l_whole => k_is)
    (case c_whole => k_is)
    (case k_whole => k_is)
    (case a_name => k_is)
    (case l_name => k_is)
    (case c_name => k_is)
    (case k_name => k_is)
    (case a_meas => k_is)
    (case l_meas => k_is)
    (case c_meas => k_is)
    (case k_meas => k_is)
    (case a_pondOf => k_is)
    (case l_pondOf => k_is)
    (case c_pondOf => k_is)
    (case k_pondOf => k_is)
    (case a_pairOf => k_is)
    (case l_pairOf => k_is)
    (case c_pairOf => k_is)
    (case k_pairOf => k_is)
    (case a_goes => k_is)
    (case l_goes => k_is)
    (case c_goes => k_is)
    (case k_goes => k_is)
    (case a_comes => k_is)
    (case l_comes => k_is)
    (case c_comes => k_is)
    (case k_comes => k_is)
    (case a_steps => k_is)
    (case l_steps => k_is)
    (case c_steps => k_is)
    (case k_steps => k_is)
    (case a_pOut => k_is)
    (case l_pOut => k_is)
    (case c_pOut => k_is)
    (case k_pOut => k_is)
    (case a_pIn => k_is)
    (case l_pIn => k_is)
    (case c_pIn => k_is)
    (case k_pIn => k_is)
    (case a_ckPonds => k_is)
    (case l_ckPonds => k_is)
    (case c_ckPonds => k_is)
    (case k_ckPonds => k_is)
    (case a_ckPipes => k_is)
    (case l_ckPipes => k_is)
    (case c_ckPipes => k_is)
    (case k_ckPipes => k_is)
    (case a_ckSides => k_is)
    (case l_ckSides => k_is)
    (case c_ckSides => k_is)
    (case k_ckSides => k_is)
    (case a_ckWays => k_is)
    (case l_ckWays => k_is)
    (case c_ckWays => k_is)
    (case k_ckWays => k_is)
    (case a_wrong => k_is)
    (case l_wrong => k_is)
    (case c_wrong => k_is)
    (case k_wrong => k_is)
    (case a_forAll => k_is)
    (case l_forAll => k_is)
    (case c_forAll => k_is)
    (case k_forAll => k_is)
    (case a_pot => k_is)
    (case l_pot => k_is)
    (case c_pot => k_is)
    (case k_pot => k_is)
    (case a_draw => k_is)
    (case l_draw => k_is)
    (case c_draw => k_is)
    (case k_draw => k_is)
    (case a_lname => k_is)
    (case l_lname => k_is)
    (case c_lname => k_is)
    (case k_lname => k_is)
    (case a_closed => k_is)
    (case l_closed => k_is)
    (case c_closed => k_is)
    (case k_closed => k_is)
    (case a_room => k_is)
    (case l_room => k_is)
    (case c_room => k_is)
    (case k_room => k_is)
    (case a_lnet => k_is)
    (case l_lnet => k_is)
    (case c_lnet => k_is)
    (case k_lnet => k_is)
    (case a_some => k_is)
    (case l_some => k_is)
    (case c_some => k_is)
    (case k_some => k_is)
    (case a_lwater => k_is)
    (case l_lwater => k_is)
    (case c_lwater => k_is)
    (case k_lwater => k_is)
    (case a_lwaters => k_is)
    (case l_lwaters => k_is)
    (case c_lwaters => k_is)
    (case k_lwaters => k_is)
    (case a_more => k_is)
    (case l_more => k_is)
    (case c_more => k_is)
    (case k_more => k_is)
    (case a_oneBy => k_is)
    (case l_oneBy => k_is)
    (case c_oneBy => k_is)
    (case k_oneBy => k_is)
    (case a_isSpilled => k_is)
    (case l_isSpilled => k_is)
    (case c_isSpilled => k_is)
    (case k_isSpilled => k_is)
    (case a_law => k_is)
    (case l_law => k_is)
    (case c_law => k_is)
    (case k_law => k_is)
    (case a_most => k_is)
    (case l_most => k_is)
    (case c_most => k_is)
    (case k_most => k_is)
    (case a_ckTimes => k_is)
    (case l_ckTimes => k_is)
    (case c_ckTimes => k_is)
    (case k_ckTimes => k_is)
    (case a_can => k_is)
    (case l_can => k_is)
    (case c_can => k_is)
    (case k_can => k_is)
    (case t_can => k_is)
    (case a_spilled => k_is)
    (case l_spilled => k_is)
    (case c_spilled => k_is)
    (case k_spilled => k_is)
    (case t_spilled => k_is)
    (case at_C => k_is)
    (case pg_C => k_is)
    (case hd_C => k_is)
    (case po_C => k_is)
    (case sa_C => k_is)
    (case mk_C => k_is)
    (case kc_C => k_is)
    (case at_S => k_is)
    (case pg_S => k_is)
    (case hd_S => k_is)
    (case po_S => k_is)
    (case sa_S => k_is)
    (case mk_S => k_is)
    (case kc_S => k_is)
    (case a_has => k_is)
    (case i_has => k_is)
    (case l_has => k_is)
    (case c_has => k_is)
    (case k_has => k_is)
    (case a_chk => k_is)
    (case i_chk => k_is)
    (case l_chk => k_is)
    (case c_chk => k_is)
    (case k_chk => k_is)
    (case a_ponds => k_is)
    (case i_ponds => k_is)
    (case l_ponds => k_is)
    (case c_ponds => k_is)
    (case k_ponds => k_is)
    (case a_brim => k_is)
    (case i_brim => k_is)
    (case l_brim => k_is)
    (case c_brim => k_is)
    (case k_brim => k_is)
    (case a_ins => k_is)
    (case i_ins => k_is)
    (case l_ins => k_is)
    (case c_ins => k_is)
    (case k_ins => k_is)
    (case a_brims => k_is)
    (case i_brims => k_is)
    (case l_brims => k_is)
    (case c_brims => k_is)
    (case k_brims => k_is)
    (case a_pipes => k_is)
    (case i_pipes => k_is)
    (case l_pipes => k_is)
    (case c_pipes => k_is)
    (case k_pipes => k_is)
    (case a_snet => k_is)
    (case i_snet => k_is)
    (case l_snet => k_is)
    (case c_snet => k_is)
    (case k_snet => k_is)
    (case a_poured => k_is)
    (case i_poured => k_is)
    (case l_poured => k_is)
    (case c_poured => k_is)
    (case k_poured => k_is)
    (case a_count => k_is)
    (case i_count => k_is)
    (case l_count => k_is)
    (case c_count => k_is)
    (case k_count => k_is)
    (case a_water => k_is)
    (case i_water => k_is)
    (case l_water => k_is)
    (case c_water => k_is)
    (case k_water => k_is)
    (case a_pours => k_is)
    (case i_pours => k_is)
    (case l_pours => k_is)
    (case c_pours => k_is)
    (case k_pours => k_is)
    (case a_counts => k_is)
    (case i_counts => k_is)
    (case l_counts => k_is)
    (case c_counts => k_is)
    (case k_counts => k_is)
    (case a_waters => k_is)
    (case i_waters => k_is)
    (case l_waters => k_is)
    (case c_waters => k_is)
    (case k_waters => k_is)
    (case a_nEq => k_is)
    (case i_nEq => k_is)
    (case l_nEq => k_is)
    (case c_nEq => k_is)
    (case k_nEq => k_is)
    (case a_sEq => k_is)
    (case i_sEq => k_is)
    (case l_sEq => k_is)
    (case c_sEq => k_is)
    (case k_sEq => k_is)
    (case a_nI => k_is)
    (case i_nI => k_is)
    (case l_nI => k_is)
    (case c_nI => k_is)
    (case k_nI => k_is)
    (case t_nI => k_is)
    (case a_sI => k_is)
    (case i_sI => k_is)
    (case l_sI => k_is)
    (case c_sI => k_is)
    (case k_sI => k_is)
    (case t_sI => k_is)
    (case n_0 => k_is)
    (case n_1 => k_is)
    (case n_2 => k_is)
    (case n_3 => k_is)
    (case n_4 => k_is)
    (case n_5 => k_is)
    (case n_6 => k_is)
    (case i_ha => k_is)
    (case i_haS => k_is)
    (case i_hn => k_is)
    (case i_htk => k_is)
    (case i_hm => k_is)
    (case i_hmS => k_is)
    (case z_isinstance => k_is)
    (case z_int => k_is)
    (case z_bool => k_is)
    (case z_str => k_is)
    (case z_len => k_is)
    (case z_all => k_is)
    (case z_tuple => k_is)
    (case z_sum => k_is)
    (case z_sorted => k_is)
    (case z_dict => k_is)
    (case z_list => k_is)
    (case z_divmod => k_is)
    (case z_max => k_is)
    (case z_abs => k_is)
    (case z_range => k_is)
    (case z_min => k_is)
    (case c_0 => k_is)
    (case c_1 => k_is)
    (case c_2 => k_is)
    (case c_3 => k_is)
