import PyProof.Rows.All
import Wide.All
import OpenK.AllK
import Wide.FinOn
import HandS.ForMost
import HandS.Walk
import HandS.IsInst
import HandS.WideBits
import HandS.Wide
import HandS.Defaults
import HandS.Flow
import HandS.More
import HandS.DictComp
import HandS.SetBool
import HandS.SetTxt0
import HandS.Set
import KE.KDictWalk
import KE.KDictSum
import KE.KSortTupG
import HandS.Head0
import HandS.Head1
import HandS.Head2
import HandS.HeadEnd
import HandS.HeadHook1
import HandS.HeadHook2
import HandS.Nested
import HandS.ExcInit
import HandS.ExcField
import HandS.ExcOwn
import HandS.WordsExc
import HandS.FStr
import KE.KExcSuper
import KE.KExcIs
import HandS.ExcIs
import HandS.Style
import HandS.DictTup
import HandS.DeepEq
import HandS.WordsDict
import HandS.RevRange
import HandS.Finally
import KE.DataMinMax
import HandS.Ends
import PyProof.ReprRoads
import PyProof.ReprLen
import HandS.RaiseMore
import PyProof.CallStr
import HandS.MakeKw
import PySem.Challenge.RW_backwater_k16_ways_out
set_option Elab.async false
set_option linter.all false
set_option maxRecDepth 100000
section
namespace Nt
open PySem
/-! ### nets, as plain lists -/
abbrev Br := List (Str × Int)
abbrev Pi := List ((Str × Str) × Int)
def nms (B : Br) : List Str := B.map (·.1)
def sumOf (f : (Str × Str) × Int → Bool) (P : Pi) : Int := ((P.filter f).map (·.2)).sum
def outW (P : Pi) (x : Str) : Int := sumOf (fun p => decide (p.1.1 = x)) P
def inW (P : Pi) (x : Str) : Int := sumOf (fun p => decide (p.1.2 = x)) P
inductive Opn (B : Br) (P : Pi) : Str → Prop
  | soak {x : Str} {b : Int} : (x, b) ∈ B → outW P x < b → Opn B P x
  | step {x y : Str} {w : Int} : ((x, y), w) ∈ P → Opn B P y → Opn B P x
structure Wf (nm : Str → Prop) (B : Br) (P : Pi) : Prop where
  nb : (nms B).Nodup
  lb : B.length ≤ 12
  rb : ∀ p ∈ B, nm p.1 ∧ 1 ≤ p.2 ∧ p.2 ≤ 60
  np : (P.map (·.1)).Nodup
  lp : P.length ≤ 200
  rp : ∀ p ∈ P, p.1.1 ∈ nms B ∧ p.1.2 ∈ nms B ∧ p.1.1 ≠ p.1.2 ∧ 1 ≤ p.2 ∧ p.2 ≤ 60
def Fit (B : Br) (P : Pi) : Prop := ∀ p ∈ B, outW P p.1 ≤ p.2 ∧ inW P p.1 ≤ p.2
theorem sumOf_nonneg {f : (Str × Str) × Int → Bool} {P : Pi} (h : ∀ p ∈ P, 0 ≤ p.2) : 0 ≤ sumOf f P := by
  unfold sumOf
  induction P with
  | nil => exact Int.le_refl _
  | cons p r ih =>
    have h1 := ih fun q hq => h q (List.mem_cons_of_mem _ hq)
    have h2 := h p List.mem_cons_self
    rw [List.filter_cons]
    split
    · rw [List.map_cons, List.sum_cons]; omega
    · exact h1
theorem perm_sum {l m : List Int} (h : l.Perm m) : l.sum = m.sum := by
  induction h with
  | nil => rfl
  | cons x _ ih => rw [List.sum_cons, List.sum_cons, ih]
  | swap x y l => simp only [List.sum_cons]; omega
  | trans _ _ a b => exact a.trans b
theorem sumOf_perm {f : (Str × Str) × Int → Bool} {P P' : Pi} (h : P.Perm P') : sumOf f P = sumOf f P' := by
  unfold sumOf
  exact perm_sum ((h.filter f).map _)
theorem outW_perm {P P' : Pi} (h : P.Perm P') (x : Str) : outW P x = outW P' x := sumOf_perm h
theorem inW_perm {P P' : Pi} (h : P.Perm P') (x : Str) : inW P x = inW P' x := sumOf_perm h
theorem Opn.perm {B B' : Br} {P P' : Pi} (hB : B.Perm B') (hP : P.Perm P') {x : Str} (h : Opn B P x) : Opn B' P' x := by
  induction h with
  | soak m l => exact .soak (hB.mem_iff.mp m) (by rw [← outW_perm hP]; exact l)
  | step m _ ih => exact .step (hP.mem_iff.mp m) ih
theorem Wf.perm {nm : Str → Prop} {B B' : Br} {P P' : Pi} (h : Wf nm B P) (hB : B.Perm B') (hP : P.Perm P') : Wf nm B' P' where
  nb := (hB.map Prod.fst).nodup_iff.mp h.nb
  lb := by rw [← hB.length_eq]; exact h.lb
  rb := fun p hp => h.rb p (hB.mem_iff.mpr hp)
  np := (hP.map Prod.fst).nodup_iff.mp h.np
  lp := by rw [← hP.length_eq]; exact h.lp
  rp := fun p hp => by
    obtain ⟨a, b, c⟩ := h.rp p (hP.mem_iff.mpr hp)
    exact ⟨(hB.map Prod.fst).mem_iff.mp a, (hB.map Prod.fst).mem_iff.mp b, c⟩
/-! ### lookups -/
def getB (B : Br) (x : Str) : Option Int := (B.find? fun p => decide (p.1 = x)).map (·.2)
theorem getB_mem {B : Br} {x : Str} {b : Int} (h : getB B x = some b) : (x, b) ∈ B := by
  unfold getB at h
  cases e : B.find? fun p => decide (p.1 = x) with
  | none => rw [e] at h; cases h
  | some p =>
    rw [e] at h
    have h1 := List.mem_of_find?_eq_some e
    have h2 := List.find?_some e
    have h3 : p.1 = x := of_decide_eq_true h2
    have h4 : p.2 = b := Option.some.inj h
    rw [← h3, ← h4]; exact h1
theorem getB_of_mem {B : Br} (nd : (nms B).Nodup) {x : Str} {b : Int} (h : (x, b) ∈ B) : getB B x = some b := by
  induction B with
  | nil => exact (List.not_mem_nil h).elim
  | cons p r ih =>
    obtain ⟨n1, n2⟩ := List.nodup_cons.mp (show (p.1 :: nms r).Nodup from nd)
    unfold getB
    rw [List.find?_cons]
    rcases List.mem_cons.mp h with e | e
    · rw [← e]; simp
    · have ne : p.1 ≠ x := fun z => n1 (by rw [z]; exact List.mem_map.mpr ⟨_, e, rfl⟩)
      rw [decide_eq_false ne]
      exact ih n2 e
theorem getB_none {B : Br} {x : Str} (h : x ∉ nms B) : getB B x = none := by
  unfold getB
  rw [List.find?_eq_none.mpr (fun p hp => by
    have : p.1 ≠ x := fun e => h (List.mem_map.mpr ⟨p, hp, e⟩)
    simpa using this)]
  rfl
theorem getB_some {B : Br} {x : Str} (h : x ∈ nms B) : ∃ b, getB B x = some b := by
  obtain ⟨p, hp, e⟩ := List.mem_map.mp h
  cases e2 : B.find? fun q => decide (q.1 = x) with
  | none =>
    have := List.find?_eq_none.mp e2 p hp
    rw [decide_eq_true e] at this
    exact absurd rfl this
  | some q => exact ⟨q.2, by unfold getB; rw [e2]; rfl⟩
/-! ### who has a way out, found step by step -/
structure Bfs (B : Br) (P : Pi) (S E : List Str) : Prop where
  nd : S.Nodup
  sub : ∀ x ∈ S, x ∈ nms B ∧ Opn B P x
  edge : ∀ x ∈ E, x ∈ S
  soak : ∀ x b, (x, b) ∈ B → outW P x < b → x ∈ S
  back : ∀ x y w, ((x, y), w) ∈ P → y ∈ S → x ∈ S ∨ y ∈ E
theorem Bfs.done {nm : Str → Prop} {B : Br} {P : Pi} {S : List Str} (h : Bfs B P S []) {x : Str} (o : Opn B P x) : x ∈ S := by
  induction o with
  | soak m l => exact h.soak _ _ m l
  | step m _ ih =>
    rcases h.back _ _ _ m ih with z | z
    · exact z
    · exact (List.not_mem_nil z).elim
/-- one round: the next edge has just those that lead into the edge and are not yet there -/
theorem Bfs.next {nm : Str → Prop} {B : Br} {P : Pi} (wf : Wf nm B P) {S E E' : List Str} (h : Bfs B P S E) (nd' : E'.Nodup) (he : ∀ x, x ∈ E' ↔ (∃ y w, ((x, y), w) ∈ P ∧ y ∈ E) ∧ x ∉ S) : Bfs B P (S ++ E') E' where
  nd := by
    rw [List.nodup_append]
    refine ⟨h.nd, nd', fun a ha b hb e => ?_⟩
    subst e
    exact ((he a).mp hb).2 ha
  sub := fun x hx => by
    rcases List.mem_append.mp hx with z | z
    · exact h.sub x z
    · obtain ⟨⟨y, w, m, hy⟩, _⟩ := (he x).mp z
      exact ⟨(wf.rp _ m).1, .step m (h.sub y (h.edge y hy)).2⟩
  edge := fun x hx => List.mem_append_right _ hx
  soak := fun x b m l => List.mem_append_left _ (h.soak x b m l)
  back := fun x y w m hy => by
    rcases List.mem_append.mp hy with z | z
    · rcases h.back x y w m z with q | q
      · exact .inl (List.mem_append_left _ q)
      · by_cases hx : x ∈ S
        · exact .inl (List.mem_append_left _ hx)
        · exact .inl (List.mem_append_right _ ((he x).mpr ⟨⟨y, w, m, q⟩, hx⟩))
    · exact .inr z
theorem len_le_of_sub {l m : List Str} (nd : l.Nodup) (h : ∀ x ∈ l, x ∈ m) : l.length ≤ m.length := by
  induction l generalizing m with
  | nil => exact Nat.zero_le _
  | cons x r ih =>
    obtain ⟨n1, n2⟩ := List.nodup_cons.mp nd
    have pm := List.perm_cons_erase (h x List.mem_cons_self)
    have := ih (m := m.erase x) n2 fun y hy => by
      rcases List.mem_cons.mp (pm.mem_iff.mp (h y (List.mem_cons_of_mem _ hy))) with e | e
      · exact absurd (e ▸ hy) n1
      · exact e
    rw [pm.length_eq, List.length_cons, List.length_cons]
    omega
/-! ### who has none, by leaving out -/
def leaves (P : Pi) (L : List Str) : List Str := L.filter fun x => (P.filter fun p => decide (p.1.1 = x)).all fun p => decide (p.1.2 ∈ L)
def leavesN (P : Pi) : Nat → List Str → List Str
  | 0, L => L
  | n + 1, L => leavesN P n (leaves P L)
theorem leaves_len (P : Pi) (L : List Str) : (leaves P L).length ≤ L.length := List.length_filter_le _ _
theorem leaves_fix {P : Pi} {L : List Str} (h : (leaves P L).length = L.length) : leaves P L = L := List.filter_eq_self.mpr (List.length_filter_eq_length_iff.mp h)
theorem leavesN_fix (P : Pi) : ∀ (n : Nat) (L : List Str), leaves P L = L → leavesN P n L = L
  | 0, _, _ => rfl
  | n + 1, L, h => by
    show leavesN P n (leaves P L) = L
    rw [h]; exact leavesN_fix P n L h
theorem leavesN_end (P : Pi) : ∀ (n : Nat) (L : List Str), L.length ≤ n → leaves P (leavesN P n L) = leavesN P n L
  | 0, L, h => by
    have : L = [] := List.length_eq_zero_iff.mp (Nat.le_zero.mp h)
    subst this; rfl
  | n + 1, L, h => by
    show leaves P (leavesN P n (leaves P L)) = leavesN P n (leaves P L)
    by_cases e : (leaves P L).length = L.length
    · have f := leaves_fix e
      rw [f, leavesN_fix P n L f, f]
    · have := leaves_len P L
      exact leavesN_end P n _ (by omega)
theorem leavesN_sub (P : Pi) : ∀ (n : Nat) (L : List Str) (x : Str), x ∈ leavesN P n L → x ∈ L
  | 0, _, _, h => h
  | n + 1, L, x, h => (List.mem_filter.mp (leavesN_sub P n _ x h)).1
theorem leaves_keep {P : Pi} {L : List Str} {x : Str} (hx : x ∈ L) (h : ∀ y w, ((x, y), w) ∈ P → y ∈ L) : x ∈ leaves P L := by
  refine List.mem_filter.mpr ⟨hx, List.all_eq_true.mpr fun p hp => ?_⟩
  obtain ⟨h1, h2⟩ := List.mem_filter.mp hp
  have e : p.1.1 = x := of_decide_eq_true h2
  refine decide_eq_true (h p.1.2 p.2 ?_)
  rw [← e]; exact h1
theorem leavesN_keep (P : Pi) (T : Str → Prop) (ht : ∀ x y w, T x → ((x, y), w) ∈ P → T y) : ∀ (n : Nat) (L : List Str), (∀ x, T x → x ∈ L) → ∀ x, T x → x ∈ leavesN P n L
  | 0, _, h => h
  | n + 1, L, h => leavesN_keep P T ht n _ fun x hx => leaves_keep (h x hx) fun y w m => h y (ht x y w hx m)
theorem fix_closed {B : Br} {P : Pi} {L : List Str} (hl : ∀ x ∈ L, ∀ b, (x, b) ∈ B → ¬ outW P x < b) (hf : leaves P L = L) {x : Str} (o : Opn B P x) : x ∉ L := by
  induction o with
  | soak m l => exact fun hx => hl _ hx _ m l
  | step m _ ih =>
    intro hx
    rw [← hf] at hx
    have := List.all_eq_true.mp (List.mem_filter.mp hx).2 _ (List.mem_filter.mpr ⟨m, decide_eq_true rfl⟩)
    exact ih (of_decide_eq_true this)
/-- what is left in the end: those without a way out -/
theorem leavesN_iff {nm : Str → Prop} {B : Br} {P : Pi} (wf : Wf nm B P) (fit : Fit B P) {L : List Str} (hL : ∀ x, x ∈ L ↔ ∃ b, (x, b) ∈ B ∧ b = outW P x) (nd : L.Nodup) (x : Str) :
    x ∈ leavesN P B.length L ↔ x ∈ nms B ∧ ¬ Opn B P x := by
  have ln : L.length ≤ B.length := by
    have := len_le_of_sub nd (m := nms B) fun x hx => by
      obtain ⟨b, hb, _⟩ := (hL x).mp hx
      exact List.mem_map.mpr ⟨_, hb, rfl⟩
    unfold nms at this
    rw [List.length_map] at this
    exact this
  constructor
  · intro hx
    have h0 := leavesN_sub P _ _ x hx
    obtain ⟨b, hb, _⟩ := (hL x).mp h0
    refine ⟨List.mem_map.mpr ⟨_, hb, rfl⟩, fun o => ?_⟩
    refine fix_closed (L := leavesN P B.length L) (fun y hy b hb lt => ?_) (leavesN_end P _ L ln) o hx
    obtain ⟨c, hc, e⟩ := (hL y).mp (leavesN_sub P _ _ y hy)
    have e1 := getB_of_mem wf.nb hb
    have e2 := getB_of_mem wf.nb hc
    rw [e1] at e2
    have : b = c := Option.some.inj e2
    omega
  · rintro ⟨hx, no⟩
    refine leavesN_keep P (fun y => y ∈ nms B ∧ ¬ Opn B P y) ?_ _ _ ?_ x ⟨hx, no⟩
    · rintro a c w ⟨ha, na⟩ m
      exact ⟨(wf.rp _ m).2.1, fun o => na (.step m o)⟩
    · rintro y ⟨hy, ny⟩
      obtain ⟨p, hp, e⟩ := List.mem_map.mp hy
      have e' : p.1 = y := e
      refine (hL y).mpr ⟨p.2, by rw [← e']; exact hp, ?_⟩
      have := (fit p hp).1
      rw [e'] at this
      by_cases lt : outW P y < p.2
      · exact absurd (.soak (by rw [← e']; exact hp) lt) ny
      · omega
end Nt
end
section
set_option maxHeartbeats 2000000
namespace Rl
open PySem PySem.Spec PyProof.Rows L2
/-! ### a comprehension of any kind: what is made stands at D, what a turn does with it is told by tb -/
def tGc (b0 : Addr → HO) (wi : TI) (g : TG) (tt : TT) (tb : Addr → L2.St → Hp → (Hp → Prop) → Prop) (vs : List Nat) : TE := fun σ H Q =>
  wi σ H fun J H1 => ∀ D, H1 D = none → ∃ W : Nat → Nat → Hp → Prop, (∃ m, W 0 m (upd H1 D (b0 D))) ∧ ∀ i m H, W i m H →
    (J.stop i H ∧ Q (.ref D) H) ∨ (J.go i H ∧ ∃ Nx : Hp → Prop, (∀ H', Nx H' → ∃ m', m' < m ∧ W (i + 1) m' H') ∧
      ∀ x H', J.yld i H x H' → g x (wipe σ vs) H' fun σ2 H2 => wipe σ2 vs = wipe σ vs ∧ tt σ2 H2 fun b H3 => if b = true then tb D σ2 H3 Nx else Nx H3)
/-- what a turn of the loop is to show -/
def TurnAt (P : Program) (w : World) (tg : Expr) (ifs : List Expr) (bd : Addr → Env → Around → (Shared → Prop) → (Value → Shared → Prop) → Shared → Prop)
    (A : Around) (R : Result → Shared → Prop) (it : Value) (D : Addr) (env : Env) (I : Nat → Shared → Prop) (n : Nat) (s : Shared) : Prop :=
  wpAny (model P w) A (pyNext it) (fun r s₁ => match r with
    | none => R (.ok .next) s₁
    | some v => wpAny (model P w) A (letOwnedTupleGo tg it v) (fun _ s₁' => wpAny (model P w) A (assign tg env v) (fun _ s₂ =>
        wpAny (model P w) A (forIn ifs true fun c r => if r = true then do let ok ← isTrue c env (eval c env); pure (ForInStep.yield ok) else pure (ForInStep.yield r))
          (fun ok s₃ => if ok = true then bd D env A (fun s' => ∃ m, m < n ∧ I m s') (notedBy (model P w) A env fun e s' => R (.error e) s') s₃ else ∃ m, m < n ∧ I m s₃)
          (notedBy (model P w) A env fun e s' => R (.error e) s') s₂) (notedBy (model P w) A env fun e s' => R (.error e) s') s₁') (notedBy (model P w) A env fun e s' => R (.error e) s') s₁)
    (notedBy (model P w) A env fun e s' => R (.error e) s') s
/-- a kind of comprehension: its expression, what it makes, its loop -/
structure Kind (P : Program) (w : World) (cx : Expr) (tg iter : Expr) (ifs : List Expr) (mk : Sem Value) (o0 : Obj) (bd : Addr → Env → Around → (Shared → Prop) → (Value → Shared → Prop) → Shared → Prop) : Prop where
  cl : clausesOf cx = [⟨tg, iter, ifs, 0⟩]
  new : ∀ {A : Around} {E : Value → Shared → Prop} {Q : Value → Shared → Prop} {s : Shared}, Q (.ref s.heap.objs.size) { s with heap := s.heap.push o0 } → wpAny (model P w) A mk Q E s
  weak : ∀ {D : Addr} {env : Env} {A : Around} {p p' : Shared → Prop} {e' : Value → Shared → Prop} {s : Shared}, (∀ s', p s' → p' s') → bd D env A p (fun _ _ => False) s → bd D env A p' e' s
  loop : ∀ {A : Around} {R : Result → Shared → Prop} {it : Value} {D : Addr} {env : Env} {s : Shared} (I : Nat → Shared → Prop), (∀ n s, I n s → TurnAt P w tg ifs bd A R it D env I n s) → ∀ n, I n s →
    codeAny (model P w) A (.compLoop cx 0 it (.ref D) env) R s
  start : ∀ {A : Around} {R : Result → Shared → Prop} {it acc : Value} {env : Env} {s : Shared}, codeAny (model P w) A (.compLoop cx 0 it acc env) R s →
    wpAny (model P w) A (pyIter it) (fun it' s' => codeAny (model P w) A (.compLoop cx 0 it' acc env) R s') (notedBy (model P w) A env fun x s' => R (.error x) s') s →
    codeAny (model P w) A (.compStart cx 0 it acc env) R s
section
variable {X : Cx}
theorem gc_core {pins : List (Addr × Obj)} {s : Shared} {σ : L2.St} {H : Hp} {Q : VK} {cx tg iter : Expr} {ifs : List Expr} {mk : Sem Value} {o0 : Obj} {bd : Addr → Env → Around → (Shared → Prop) → (Value → Shared → Prop) → Shared → Prop}
    {scope : Scope} {own : List (Str × Nat)} {pos' : Pos} {wi : TI} {g : TG} {tt : TT} {b0 : Addr → HO} {tb : Addr → L2.St → Hp → (Hp → Prop) → Prop} {use : Option (Value → Sem Unit)} {Qf : Value → Shared → Prop}
    (KD : Kind X.prog X.w cx tg iter ifs mk o0 bd)
    (hb0 : ∀ {pins : List (Addr × Obj)} {σ : L2.St} {H : Hp} {s : Shared}, Inv X pins σ H s → ObjOk X.prog X.w (upd H s.heap.objs.size (b0 s.heap.objs.size)) (s.heap.push o0) s.heap.objs.size (b0 s.heap.objs.size))
    (hc : X.calm = true) (hN : X.N.Nodup) (I : Inv X pins σ H s) (hi : PI X tg iter wi) (ok : BlkOk X.N X.env.scope scope own)
    (hg : ∀ (s : Shared) (H : Hp) (C : Addr) (cl : List (Str × Addr)) (fp : List Addr), PG (X.blk s H scope (compEnvC scope cl C X.env) fp) tg g)
    (ht : ∀ (s : Shared) (H : Hp) (C : Addr) (cl : List (Str × Addr)) (fp : List Addr), PTs (X.blk s H scope (compEnvC scope cl C X.env) fp) ifs tt)
    (hb : ∀ (s : Shared) (H : Hp) (C : Addr) (cl : List (Str × Addr)) (fp : List Addr) (pins : List (Addr × Obj)) (σ : L2.St) (H' : Hp) (s' : Shared) (D : Addr) (Nx : Hp → Prop),
      Inv (X.blk s H scope (compEnvC scope cl C X.env) fp) pins σ H' s' → tb D σ H' Nx → bd D (compEnvC scope cl C X.env) X.A (fun s'' => ∃ H'', Inv (X.blk s H scope (compEnvC scope cl C X.env) fp) pins σ H'' s'' ∧ Nx H'') (fun _ _ => False) s')
    (hs : ∀ x, foldedSetIterable iter X.env x = pure x)
    (h : tGc b0 wi g tt tb (own.map (·.2)) σ H Q)
    (hRR : ∀ D C s' m H', Inv X pins σ H' s' → Q (.ref D) H' → s'.heap.Ns C m → FpOk X pins H' C → compPost (model X.prog X.w) X.A X.xe use Qf (.ref D) C (.ok .next) s') :
    wpAny (model X.prog X.w) X.A (comprehension cx scope X.env pos' mk false (eval iter X.env) use) Qf X.xe s := by
  have free : ∀ y ∈ scope.names, y.2 = .free → ∃ c, X.env.cells.lookup y.1 = some c := by
    intro y hy e
    exact (ok.free y hy e).elim (fun k => I.ok.has _ (.inl k)) (fun k => I.ok.has _ (.inr k))
  refine wpAny_comprehension_free (use := use) KD.cl hs (closure_ok free) ok.kind
    (by intro y hy e; rw [ok.uniq y hy, e]) (thn (hi.run pins s σ H _ I h) (fun xv s1 hx => thn hx (fun itv s2 h2 => ?_)))
  obtain ⟨it, fp, tn, J, H2, rfl, I2, T, st2, f2, q⟩ := h2
  refine KD.new (newEnv_comp ?_)
  obtain ⟨D, hD⟩ : ∃ D, s2.heap.objs.size = D := ⟨_, rfl⟩
  have nD : H2 D = none := I2.hok.fresh (Nat.le_of_eq hD)
  obtain ⟨W, ⟨m0, w0⟩, turn⟩ := q D nD
  rw [hD]
  obtain ⟨s3, hs3⟩ : ∃ s3 : Shared, s3 = { s2 with heap := s2.heap.push o0 } := ⟨_, rfl⟩
  rw [← hs3]
  have h3 : s3.heap = s2.heap.push o0 := by rw [hs3]
  obtain ⟨H3, hH3⟩ : ∃ H3, H3 = upd H2 D (b0 D) := ⟨_, rfl⟩
  rw [← hH3] at w0
  have I3 : Inv X pins σ H3 s3 := by
    have z := I2.laid (t' := s2.toks) (h' := s2.heap.push o0) (fun b o e => Heap.get?_push_of_some _ e) (Nat.le_refl _) (hb0 I2)
    rw [hs3, hH3, ← hD]
    exact z
  have old : ∀ b ∈ fp, b < s2.heap.objs.size := by
    intro b hb
    obtain ⟨o, e, _⟩ := T.obj _ _ st2 b hb
    exact Heap.lt_size e
  have f3 : ∀ b ∈ fp, FpOk X pins H3 b ∧ b < s3.heap.objs.size := by
    intro b hb
    have lt := old b hb
    refine ⟨⟨?_, (f2 b hb).2⟩, ?_⟩
    · rw [hH3, upd_ne (show b ≠ D from by rw [← hD]; exact Nat.ne_of_lt lt)]
      exact (f2 b hb).1
    · rw [h3, Heap.size_push]; exact Nat.lt_succ_of_lt lt
  have st3 : tn 0 s3.heap := T.keep _ _ _ st2 (by intro b _ o e; rw [h3]; exact Heap.get?_push_of_some _ e)
  have I4 := block_start I3 ok hN f3
  have pg := hg s3 H3 s3.heap.objs.size (cellsFrom (s3.heap.objs.size + 1) scope.names (cloFrom X.env.cells scope.names [])) fp
  have pt := ht s3 H3 s3.heap.objs.size (cellsFrom (s3.heap.objs.size + 1) scope.names (cloFrom X.env.cells scope.names [])) fp
  have pb := hb s3 H3 s3.heap.objs.size (cellsFrom (s3.heap.objs.size + 1) scope.names (cloFrom X.env.cells scope.names [])) fp
  show codeAny _ _ (.compStart cx 0 (.ref it) (.ref D) (compEnvC scope (cellsFrom (s3.heap.objs.size + 1) scope.names (cloFrom X.env.cells scope.names [])) s3.heap.objs.size X.env))
    (compPost (model X.prog X.w) X.A X.xe use Qf (.ref D) s3.heap.objs.size) { s3 with heap := pushCells (s3.heap.push { cls := .type "dict", data := .dict #[] }) scope.names }
  have nfp : ∀ b ∈ fp, H3 b = none := fun b hb => (f3 b hb).1.1
  obtain ⟨ce, hce⟩ : ∃ ce, ce = compEnvC scope (cellsFrom (s3.heap.objs.size + 1) scope.names (cloFrom X.env.cells scope.names [])) s3.heap.objs.size X.env := ⟨_, rfl⟩
  rw [← hce] at I4 pg pt pb ⊢
  have cL : ce.locals = s3.heap.objs.size := by rw [hce]; rfl
  obtain ⟨s4, hs4⟩ : ∃ s4 : Shared, s4 = { s3 with heap := pushCells (s3.heap.push { cls := .type "dict", data := .dict #[] }) scope.names } := ⟨_, rfl⟩
  rw [← hs4] at I4 ⊢
  have st4 : tn 0 s4.heap := T.keep _ _ _ st3 (by intro b _ o e; rw [hs4]; exact pushCells_keeps _ _ _ _ (Heap.get?_push_of_some _ e))
  have stat : ∀ {σ' : L2.St} {H' : Hp} {s' : Shared}, Inv (X.blk s3 H3 scope ce fp) [] σ' H' s' → (∀ b ∈ fp, H' b = none) → ∀ b ∈ fp, FpOk (X.blk s3 H3 scope ce fp) [] H' b := by
    intro σ' H' s' J' hn b hb
    refine ⟨hn b hb, (J'.ok.exf b hb).1, J'.ok.exfs b hb, .inl hb, fun x c e => (J'.ok.exf b hb).2 x c e, fun p hp => ?_⟩
    exact (List.not_mem_nil (show p ∈ ([] : List (Addr × Obj)) from hp)).elim
  have loop : codeAny (model X.prog X.w) X.A (.compLoop cx 0 (.ref it) (.ref D) ce) (compPost (model X.prog X.w) X.A X.xe use Qf (.ref D) s3.heap.objs.size) s4 := by
    refine KD.loop (fun n s' => ∃ i H', Inv (X.blk s3 H3 scope ce fp) [] (wipe σ (own.map (·.2))) H' s' ∧ tn i s'.heap ∧ (∀ b ∈ fp, H' b = none) ∧ W i n H') ?_ m0 ⟨0, H3, I4, st4, nfp, w0⟩
    rintro n s5 ⟨i, H5, I5, st5, n5, w5⟩
    rcases turn i n H5 w5 with ⟨stop, qq⟩ | ⟨go, Nx, hNx, step⟩
    · refine thnF (T.done (X.blk s3 H3 scope ce fp) rfl rfl rfl hc i [] s5 _ H5 (fun _ _ => False) I5 (stat I5 n5) st5 stop) ?_
      rintro r s6 ⟨rfl, I6⟩
      have I7 : Inv X pins σ H5 s6 := I3.call' (ch := fp) I6.os I6.base I6.hok I6.bare (by
        intro b hb
        have z := (f3 b hb).1
        exact ⟨z.2.2.2.1, z.2.1, z.2.2.2.2.1, z.2.2.2.2.2⟩)
      have nC : H5 s3.heap.objs.size = none := by
        rw [← cL]; exact I6.free
      obtain ⟨m, hn, _⟩ := I6.loc
      have hn' : s6.heap.Ns s3.heap.objs.size m := by
        rw [← cL]; exact hn
      exact hRR D s3.heap.objs.size s6 m H5 I7 qq hn' (I3.fpOk (Nat.le_refl _) nC)
    · refine thnF (T.item (X.blk s3 H3 scope ce fp) rfl rfl rfl hc i [] s5 _ H5 (fun _ _ => False) I5 (stat I5 n5) st5 go) ?_
      rintro r s6 ⟨u, rfl, h6⟩
      refine thnF h6 ?_
      rintro _ s7 ⟨x, H7, I7, r7, y7, st7, n7⟩
      have I7' := I7.pinned (stat I7 n7) (T.obj _ _ st7)
      refine thnF (pg.run _ s7 _ H7 x u _ I7' r7 (step x H7 y7)) ?_
      rintro _ s8 ⟨σ8, H8, I8, hw8, q8⟩
      refine thnF (pt.run _ s8 σ8 H8 _ I8 q8) ?_
      rintro b s9 ⟨H9, I9, q9⟩
      have fin : ∀ {s' : Shared} {H' : Hp}, Inv (X.blk s3 H3 scope ce fp) ([] ++ pinsAt fp s7.heap) σ8 H' s' → Nx H' →
          ∃ m, m < n ∧ ∃ i H', Inv (X.blk s3 H3 scope ce fp) [] (wipe σ (own.map (·.2))) H' s' ∧ tn i s'.heap ∧ (∀ b ∈ fp, H' b = none) ∧ W i m H' := by
        intro s' H' I' nx
        obtain ⟨m', hm, w'⟩ := hNx H' nx
        have kept : ∀ b ∈ fp, ∀ o, s7.heap.get? b = some o → s'.heap.get? b = some o ∧ H' b = none := by
          intro b hb o e
          have z := I'.pin (b, o) (List.mem_append_right _ (List.mem_append_right _ (mem_pinsAt hb e)))
          exact ⟨z.1, z.2.1⟩
        refine ⟨m', hm, i + 1, H', (I'.unpinned (pins := [])).weak (by rw [← hw8, wipe_length]) (fun j v e => ?_), T.keep _ _ _ st7 (fun b hb o e => (kept b hb o e).1), fun b hb => ?_, w'⟩
        · rw [← hw8] at e; exact (wipe_some e).1
        · obtain ⟨o, e, _⟩ := T.obj _ _ st7 b hb
          exact (kept b hb o e).2
      cases b with
      | false =>
        rw [if_neg Bool.false_ne_true] at q9
        exact iteF (fin I9 q9)
      | true =>
        rw [if_pos rfl] at q9
        refine iteT (KD.weak ?_ (pb _ σ8 H9 s9 D Nx I9 q9))
        rintro s' ⟨H', I', nx⟩
        exact fin I' nx
  exact KD.start loop (T.self X.A 0 _ _ _ st4 loop)
end
end Rl
end
section
set_option maxHeartbeats 2000000
namespace Rl
open PySem PySem.Spec PyProof.Rows L2
/-! ### over a walk -/
theorem gc_it {J : It} {n : Nat} {G : Hp → Prop} {Y : Nat → Hp → V → Hp → Prop} (w : Walk J n G Y) {b0 : Addr → HO} {g : TG} {tt : TT} {tb : Addr → L2.St → Hp → (Hp → Prop) → Prop} {vs : List Nat} {σ : L2.St} {H1 : Hp} {D : Addr} {Qd : Hp → Prop} (Pv : Nat → Hp → Prop)
    (h0 : Pv 0 (upd H1 D (b0 D))) (hG : ∀ i H, i ≤ n → Pv i H → G H)
    (hs : ∀ i x H H', i < n → Pv i H → Y i H x H' → g x (wipe σ vs) H' fun σ2 H2 => wipe σ2 vs = wipe σ vs ∧ tt σ2 H2 fun b H3 => if b = true then tb D σ2 H3 (Pv (i + 1)) else Pv (i + 1) H3)
    (hd : ∀ H, Pv n H → Qd H) :
    ∃ W : Nat → Nat → Hp → Prop, (∃ m, W 0 m (upd H1 D (b0 D))) ∧ ∀ i m H, W i m H →
      (J.stop i H ∧ Qd H) ∨ (J.go i H ∧ ∃ Nx : Hp → Prop, (∀ H', Nx H' → ∃ m', m' < m ∧ W (i + 1) m' H') ∧
        ∀ x H', J.yld i H x H' → g x (wipe σ vs) H' fun σ2 H2 => wipe σ2 vs = wipe σ vs ∧ tt σ2 H2 fun b H3 => if b = true then tb D σ2 H3 Nx else Nx H3) := by
  refine ⟨fun i m H => m + i = n ∧ Pv i H, ⟨n, rfl, h0⟩, ?_⟩
  rintro i m H ⟨e, p⟩
  have q := hG i H (by omega) p
  rcases Nat.lt_or_ge i n with lt | ge
  · refine .inr ⟨w.goes i H lt q, Pv (i + 1), fun H' p' => ⟨m - 1, by omega, by omega, p'⟩, fun x H' y => hs i x H H' lt p (w.yields i H x H' lt q y)⟩
  · have ei : i = n := by omega
    subst ei
    exact .inl ⟨w.stops H q, hd H p⟩
/-! ### {k: v for ..} -/
def bdD (P : Program) (w : World) (kx vx : Expr) (D : Addr) (env : Env) (A : Around) (p : Shared → Prop) (e : Value → Shared → Prop) (s : Shared) : Prop :=
  wpAny (model P w) A (eval kx env) (fun kv s4 => wpAny (model P w) A (eval vx env) (fun vv s5 => wpAny (model P w) A (dictSet D kv vv) (fun _ s6 => p s6) e s5) e s4) e s
theorem kindD (P : Program) (w : World) (kx vx tg iter : Expr) (ifs : List Expr) (scope : Scope) (pos : Pos) :
    Kind P w (.DictComp kx vx [⟨tg, iter, ifs, 0⟩] scope pos) tg iter ifs newDict { cls := .type "dict", data := .dict #[] } (bdD P w kx vx) where
  cl := rfl
  new := fun h => wpAny_newObj_type h
  weak := fun hp h => wpAny_mono h (fun _ _ h1 => wpAny_mono h1 (fun _ _ h2 => wpAny_mono h2 (fun _ _ h3 => hp _ h3) fun _ _ z => z.elim) fun _ _ z => z.elim) fun _ _ z => z.elim
  loop := fun I turn n h => compLoop_anyD I turn n h
  start := fun h0 h => codeAny_compStart_dict h0 h
section
variable {X : Cx}
/-- d[y] = v where the comprehension does it -/
theorem dset_ok {pins : List (Addr × Obj)} {σ : L2.St} {H H' : Hp} {s : Shared} {E : Value → Shared → Prop} {D : Addr} {y v : V} {u r : Value} {Q : Unit → Shared → Prop} (hu : X.A.units < cLine) (I : Inv X pins σ H s) (g : DPut H D y v H') (ry : RelV y u) (rv : RelV v r)
    (h : ∀ s', Inv X pins σ H' s' → Q () s') : wpAny (model X.prog X.w) X.A (dictSet D u r) Q E s := by
  rcases g with ⟨kvs, k, e, rfl, l, rfl⟩ | ⟨kvs, k, b, e, rfl, eb, l, rfl⟩
  · exact d_dictSet I e l ry rv h
  · cases (show u = Value.ref b from ry)
    obtain ⟨z, hd, xs, rel, dd⟩ := dt_of I.hok e
    have l1 : xs.length ≤ sizeLine := by rw [← Paired.length rel]; exact z
    have l2 : (putK kvs k v).length ≤ sizeLine := by have := length_putK kvs k v; omega
    refine wpAny_dictSet_heap (hsz := l1) (show (tupleKind (mixKind X.prog X.w)).room X.A from hu) (key_of I.hok eb) dd (fun h' dd' sb => h _ ?_)
    obtain ⟨q, es, ep, hq, h2, h3, h4, _, h5⟩ := dd'
    refine d_write I (by rw [e]; trivial) sb ⟨q, hq⟩ ⟨l2, hd, _, (rel.put k eb rv).keeps (fun c ys ec => ?_), q, es, ep, hq, h2, h3, h4, h5⟩
    rw [upd_ne (ne_of ec e (fun z => nomatch z))]; exact ec
def tbD (tk tv : TE) : Addr → L2.St → Hp → (Hp → Prop) → Prop := fun D σ H Nx => tk σ H fun y H4 => tv σ H4 fun z H5 => ∃ H6, DPut H5 D y z H6 ∧ Nx H6
theorem eval_dc (kx vx : Expr) (gens : List Comprehension) (scope : Scope) (pos : Pos) (env : Env) : eval (.DictComp kx vx gens scope pos) env =
    comprehension (.DictComp kx vx gens scope pos) scope env (firstIterPos gens pos) newDict (firstAsync gens) (firstIter gens env) := rfl
/-- {k: v for ..}, keys tuples (T := .dT []) or ints and texts (T := .dK []) -/
theorem pe_dcP {T : HO} {kx vx tg iter : Expr} {ifs : List Expr} {scope : Scope} {own : List (Str × Nat)} {pos : Pos} {wi : TI} {g : TG} {tt : TT} {tk tv : TE} {j : Nat} (hT : T = .dT [] ∨ T = .dK []) (hr : Room j X.A) (hc : X.calm = true) (hN : X.N.Nodup) (hi : PI X tg iter wi) (ok : BlkOk X.N X.env.scope scope own)
    (hg : ∀ (s : Shared) (H : Hp) (C : Addr) (cl : List (Str × Addr)) (fp : List Addr), PG (X.blk s H scope (compEnvC scope cl C X.env) fp) tg g)
    (ht : ∀ (s : Shared) (H : Hp) (C : Addr) (cl : List (Str × Addr)) (fp : List Addr), PTs (X.blk s H scope (compEnvC scope cl C X.env) fp) ifs tt)
    (hk : ∀ (s : Shared) (H : Hp) (C : Addr) (cl : List (Str × Addr)) (fp : List Addr), PE (X.blk s H scope (compEnvC scope cl C X.env) fp) kx tk)
    (he : ∀ (s : Shared) (H : Hp) (C : Addr) (cl : List (Str × Addr)) (fp : List Addr), PE (X.blk s H scope (compEnvC scope cl C X.env) fp) vx tv) (hs : ∀ x, foldedSetIterable iter X.env x = pure x := by intro _; rfl) :
    PE X (.DictComp kx vx [⟨tg, iter, ifs, 0⟩] scope pos) (tGc (fun _ => T) wi g tt (tbD tk tv) (own.map (·.2))) := by
  refine ⟨fun pins s σ H Q I h => ?_⟩
  rw [eval_dc]
  refine gc_core (kindD X.prog X.w kx vx tg iter ifs scope pos) (fun {_ _ _ s1} I1 => ?_) hc hN I hi ok hg ht ?_ hs h (fun D C s' m H' I' q hn f => ⟨m, hn, fun h'' sb => ?_⟩)
  · rcases hT with rfl | rfl
    · exact dt_empty s1.heap I1.big
    · exact dk_empty s1.heap I1.big
  · intro s1 H1 C cl fp pins' σ' H' s' D Nx I' q
    refine thnF ((hk s1 H1 C cl fp).run _ s' σ' H' _ I' q) ?_
    rintro kv s2 ⟨y, H2, I2, r2, q2⟩
    refine thnF ((he s1 H1 C cl fp).run _ s2 σ' H2 _ I2 q2) ?_
    rintro vv s3 ⟨z, H3, I3, r3, H4, put, nx⟩
    exact dset_ok (X := X.blk s1 H1 scope (compEnvC scope cl C X.env) fp) hr.units0 I3 put r2 r3 (fun s4 I4 => ⟨H4, I4, nx⟩)
  · obtain ⟨f0, f1, f2, f3, f4, f5⟩ := f
    exact ⟨.ref D, H', I'.turned (t' := s'.toks) (fun b o hb e => (sb.2 b hb).trans e) f0 f1 f3 f4 f5, rfl, q⟩
end
end Rl
end
section
set_option maxHeartbeats 2000000
namespace Rl
open PySem PySem.Spec PyProof.Rows L2 PySem.Froz
/-! ### sets of texts that can be walked -/
def SetTx (P : Program) (w : World) (h : Heap) (a : Addr) (l : List Str) : Prop :=
  ∃ D : SD, h.get? a = some (sObj "set" D) ∧ TxOk P w D l ∧ l.Nodup ∧ l.length < scanBound ∧ Ris D.2.2.place.toList ∧ (w.params.followText "set-order" = true ∨ D.2.2.led = true)
def SetX (P : Program) (w : World) (a : Addr) (l : List Str) : HO := .ext fun h => SetTx P w h a l
theorem SetTx.at {P : Program} {w : World} {h h' : Heap} {a : Addr} {l : List Str} (R : SetTx P w h a l) (k : ∀ o, h.get? a = some o → h'.get? a = some o) : SetTx P w h' a l := by
  obtain ⟨D, ho, r⟩ := R
  exact ⟨D, k _ ho, r⟩
theorem setX_new {P : Program} {w : World} {H : Hp} {h : Heap} {a : Addr} {l : List Str} (R : SetTx P w h a l) : ObjOk P w H h a (SetX P w a l) :=
  ⟨R, ⟨_, R.choose_spec.1⟩, fun h1 h2 p k => SetTx.at p k⟩
theorem tail_led (ep : Nat) (es1 : Array (Int × Value)) (t2 : SetTable) (b : Bool) : (tailTx ep es1 t2 b).2.2.led = t2.led := by
  unfold tailTx
  by_cases c : (!b && t2.tooFull) = true
  · rw [if_pos c]; exact relayAll_led _ _ _
  · rw [if_neg c]
theorem tail_ris (ep : Nat) (es1 : Array (Int × Value)) (t2 : SetTable) (b : Bool) (r : Ris t2.place.toList) : Ris (tailTx ep es1 t2 b).2.2.place.toList := by
  unfold tailTx
  by_cases c : (!b && t2.tooFull) = true
  · rw [if_pos c]; exact relayAll_ris _ _ _
  · rw [if_neg c]; exact r
theorem addTx_led (h : Int) (v : Value) (D : SD) : (addTx h v D).2.2.led = D.2.2.led := by
  have e1 : ∀ t2 : SetTable, (if t2.plain = true then { t2 with plain := false } else t2).led = t2.led := fun t2 => by split <;> rfl
  unfold addTx
  rw [tail_led, e1, layNew_led]
theorem addTx_ris (h : Int) (v : Value) (D : SD) (r : Ris D.2.2.place.toList) : Ris (addTx h v D).2.2.place.toList := by
  have e1 : ∀ t2 : SetTable, (if t2.plain = true then { t2 with plain := false } else t2).place = t2.place := fun t2 => by split <;> rfl
  unfold addTx
  refine tail_ris _ _ _ _ ?_
  rw [e1]
  exact layNew_ris _ _ h v r
section
variable {P : Program} {w : World} {A : Around} {E : Value → Shared → Prop} {s : Shared}
/-- it is there already -/
theorem has_add {a : Addr} {D : SD} {l : List Str} {k : Str} {u : Tok} {Q : Bool → Shared → Prop} (ho : s.heap.get? a = some (sObj "set" D)) (F : TxOk P w D l) (hk : k ∈ l) (hb : l.length < scanBound)
    (h : Q false s) : wpAny (model P w) A (setAddHashed a (.str k u) (hashStr w k)) Q E s := by
  obtain ⟨es, ep, t⟩ := D
  have e1 : es.size = l.length := F.sz
  have e2 : ElemsOf (strKind P w) es.toList := F.el
  have e3 : t.fits es.size = true := F.fit
  obtain ⟨x, hx, px⟩ := (F.mem k).mp hk
  unfold setAddHashed setAddHashedIn
  refine wpAny_holding (wpAny_bind (wpAny_setState_of ho rfl e3 ?_))
  dsimp only
  rw [byScan_of rfl (by omega) e2]
  simp only [↓reduceIte]
  unfold setAddByScan
  refine wpAny_bind (wpAny_bind (wpAny_rule (wpAny_bind (wpAny_setScan_of (knd := strKind P w) (k := k) (is_str k u) ho rfl e3 e2 ?_))))
  cases hf : List.findIdx? (fun e => (strKind P w).is k e.2) es.toList with
  | some j => exact wpAny_pure (wpAny_pure h)
  | none =>
    have c := List.findIdx?_eq_none_iff.mp hf x hx
    rw [px] at c
    cases c
/-- found.add(k) -/
theorem setTx_add {a : Addr} {l : List Str} {k : Str} {u : Tok} {Q : Value → Shared → Prop} (R : SetTx P w s.heap a l) (room : l.length + 1 < scanBound)
    (hQ : ∀ h', Heap.SameBut a s.heap h' → SetTx P w h' a (if k ∈ l then l else k :: l) → Q .none { s with heap := h', toks := s.toks + 1 }) :
    wpAny (model P w) A (call (.builtin "set.add") [.ref a, .str k u]) Q E s := by
  obtain ⟨D, ho, F, nd, hb, r, hl⟩ := R
  refine wpAny_call_entry PySem.F.slot_set_add ⟨_, ho, rfl⟩ PySem.F.entry_set_add ?_ (PySem.F.args_set_add_2 _ _)
  unfold Builtin.«set.add» Builtin.Frozenset.oneOther
  simp only [List.isEmpty_nil, bind_assoc]
  unfold Builtin.Frozenset.addrOf setAdd
  refine wpAny_bind (wpAny_pure ?_)
  try dsimp only
  refine wpAny_bind (wpAny_pure ?_)
  try dsimp only
  refine wpAny_bind (wpAny_holding (wpAny_bind ((strKind P w).pyHash (is_str k u) ?_)))
  by_cases hk : k ∈ l
  · refine has_add (s := { s with toks := s.toks + 1 }) ho F hk hb ?_
    show wpAny _ _ (ret Value.none) _ _ _
    refine wpAny_pure ⟨_, rfl, hQ s.heap (Heap.SameBut.refl a s.heap) ?_⟩
    rw [if_pos hk]
    exact ⟨D, ho, F, nd, hb, r, hl⟩
  · refine add_x (s := { s with toks := s.toks + 1 }) ho F hk room ?_
    show wpAny _ _ (ret Value.none) _ _ _
    refine wpAny_pure ⟨_, rfl, hQ _ (Heap.SameBut.update s.heap a _) ?_⟩
    rw [if_neg hk]
    exact ⟨_, get_upd _ ho rfl, add_ok u F, List.nodup_cons.mpr ⟨hk, nd⟩, room, addTx_ris _ _ _ r, by rw [addTx_led]; exact hl⟩
end
end Rl
end
section
set_option maxHeartbeats 2000000
namespace Rl
open PySem PySem.Spec PyProof.Rows L2 PySem.Froz
/-! ### {text for ..} -/
def bdS (P : Program) (w : World) (elt : Expr) (D : Addr) (env : Env) (A : Around) (p : Shared → Prop) (e : Value → Shared → Prop) (s : Shared) : Prop :=
  wpAny (model P w) A (eval elt env) (fun x s4 => wpAny (model P w) A (call (.builtin "set.add") [.ref D, x]) (fun _ s5 => p s5) e s4) e s
def set0 (w : World) : Obj := { cls := .type "set", dict := none, data := .set #[] 0 (.fresh 0 0 (!w.params.followText "set-order")) }
theorem kindS (P : Program) (w : World) (elt tg iter : Expr) (ifs : List Expr) (scope : Scope) (pos : Pos) :
    Kind P w (.SetComp elt [⟨tg, iter, ifs, 0⟩] scope pos) tg iter ifs (newSet (.type "set")) (set0 w) (bdS P w elt) where
  cl := rfl
  new := fun h => PpSet.newSet_ok h
  weak := fun hp h => wpAny_mono h (fun _ _ h1 => wpAny_mono h1 (fun _ _ h2 => hp _ h2) fun _ _ z => z.elim) fun _ _ z => z.elim
  loop := fun I turn n h => PpSet.compLoopS_any I turn n h
  start := fun h0 h => PpSet.codeAny_compStart_set h0 h
theorem setTx_fresh (P : Program) (w : World) (h : Heap) : SetTx P w (h.push (set0 w)) h.objs.size [] := by
  refine ⟨(#[], 0, .fresh 0 0 (!w.params.followText "set-order")), Heap.get?_push_size _ rfl, TxOk.nil (by rfl), List.nodup_nil, by decide, List.Pairwise.nil, ?_⟩
  show _ ∨ (!w.params.followText "set-order") = true
  cases w.params.followText "set-order"
  · exact .inr rfl
  · exact .inl rfl
section
variable {X : Cx}
def tbS (P : Program) (w : World) (te : TE) : Addr → L2.St → Hp → (Hp → Prop) → Prop := fun D σ H Nx => te σ H fun y H4 => ∃ (k : Str) (l : List Str),
  y = .str k ∧ H4 D = some (SetX P w D l) ∧ l.length + 1 < scanBound ∧ Nx (upd H4 D (SetX P w D (if k ∈ l then l else k :: l)))
theorem setX_add {pins : List (Addr × Obj)} {σ : L2.St} {H : Hp} {s : Shared} {E : Value → Shared → Prop} {D : Addr} {l : List Str} {k : Str} {u : Value} {Q : Value → Shared → Prop} (I : Inv X pins σ H s) (hD : H D = some (SetX X.prog X.w D l)) (room : l.length + 1 < scanBound) (ru : RelV (.str k) u)
    (h : ∀ s', Inv X pins σ (upd H D (SetX X.prog X.w D (if k ∈ l then l else k :: l))) s' → Q .none s') : wpAny (model X.prog X.w) X.A (call (.builtin "set.add") [.ref D, u]) Q E s := by
  obtain ⟨t, rfl⟩ := (show ∃ t, u = Value.str k t from ru)
  refine setTx_add (show SetTx X.prog X.w s.heap D l from (I.hok D _ hD).1) room (fun h' sb new => h _ ?_)
  exact I.write (e := D) (t' := s.toks + 1) (by rw [hD]; trivial) (.inl rfl) (fun b u hb hu => (sb.2 b hb).trans hu) ⟨_, new.choose_spec.1⟩ (setX_new new)
theorem pe_scX {elt tg iter : Expr} {ifs : List Expr} {scope : Scope} {own : List (Str × Nat)} {pos : Pos} {wi : TI} {g : TG} {tt : TT} {te : TE} (hc : X.calm = true) (hN : X.N.Nodup) (hi : PI X tg iter wi) (ok : BlkOk X.N X.env.scope scope own)
    (hg : ∀ (s : Shared) (H : Hp) (C : Addr) (cl : List (Str × Addr)) (fp : List Addr), PG (X.blk s H scope (compEnvC scope cl C X.env) fp) tg g)
    (ht : ∀ (s : Shared) (H : Hp) (C : Addr) (cl : List (Str × Addr)) (fp : List Addr), PTs (X.blk s H scope (compEnvC scope cl C X.env) fp) ifs tt)
    (he : ∀ (s : Shared) (H : Hp) (C : Addr) (cl : List (Str × Addr)) (fp : List Addr), PE (X.blk s H scope (compEnvC scope cl C X.env) fp) elt te) (hs : ∀ x, foldedSetIterable iter X.env x = pure x := by intro _; rfl) :
    PE X (.SetComp elt [⟨tg, iter, ifs, 0⟩] scope pos) (tGc (fun D => SetX X.prog X.w D []) wi g tt (tbS X.prog X.w te) (own.map (·.2))) := by
  refine ⟨fun pins s σ H Q I h => ?_⟩
  rw [PpSet.eval_SetComp]
  refine gc_core (kindS X.prog X.w elt tg iter ifs scope pos) (fun {_ _ _ s1} I1 => setX_new (setTx_fresh _ _ s1.heap)) hc hN I hi ok hg ht ?_ hs h (fun D C s' m H' I' q hn f => ⟨m, hn, fun h'' sb => ?_⟩)
  · intro s1 H1 C cl fp pins' σ' H' s' D Nx I' q
    refine thnF ((he s1 H1 C cl fp).run _ s' σ' H' _ I' q) ?_
    rintro x s2 ⟨y, H2, I2, r2, k, l, rfl, hD, room, nx⟩
    exact setX_add (X := X.blk s1 H1 scope (compEnvC scope cl C X.env) fp) I2 hD room r2 (fun s4 I4 => ⟨_, I4, nx⟩)
  · obtain ⟨f0, f1, f2, f3, f4, f5⟩ := f
    exact ⟨.ref D, H', I'.turned (t' := s'.toks) (fun b o hb e => (sb.2 b hb).trans e) f0 f1 f3 f4 f5, rfl, q⟩
end
/-! ### sorted of it -/
theorem perm_of_nodup : ∀ {l m : List Str}, l.Nodup → (∀ x ∈ l, x ∈ m) → m.length ≤ l.length → m.Perm l
  | [], m, _, _, h => by
    have : m = [] := List.length_eq_zero_iff.mp (Nat.le_zero.mp h)
    rw [this]
  | x :: r, m, nd, hs, hl => by
    obtain ⟨n1, n2⟩ := List.nodup_cons.mp nd
    have hx := hs x List.mem_cons_self
    have pm := List.perm_cons_erase hx
    have ln : m.length = (m.erase x).length + 1 := by rw [pm.length_eq, List.length_cons]
    refine pm.trans (List.Perm.cons x (perm_of_nodup n2 (fun y hy => ?_) (by rw [List.length_cons] at hl; omega)))
    have hy' := hs y (List.mem_cons_of_mem _ hy)
    have ne : y ≠ x := fun e => n1 (e ▸ hy)
    rcases List.mem_cons.mp (pm.mem_iff.mp hy') with e | e
    · exact absurd e ne
    · exact e
def txOf : Value → Str
  | .str k _ => k
  | _ => Str.empty
theorem strs_of : ∀ {l : List Value}, (∀ v ∈ l, ∃ k t, v = Value.str k t) → StrsAre l (l.map txOf)
  | [], _ => .nil
  | v :: l, h => by
    obtain ⟨k, t, rfl⟩ := h v List.mem_cons_self
    exact .cons k t (strs_of fun u hu => h u (List.mem_cons_of_mem _ hu))
section
variable {X : Cx}
def rSortX (P : Program) (w : World) : List V → Hp → VK → Prop := fun vs H Q => ∃ (a : Addr) (l : List Str), vs = [.ref a] ∧ H a = some (SetX P w a l) ∧ l.length < 64 ∧
  ∀ (ys : List Str) (p : Addr), ys.Perm l → sortedS ys = true → H p = none → Q (.ref p) (upd H p (.lst (ys.map V.str)))
theorem call_sortX (hc : X.calm = true) : CallR X (.builtin "sorted") (rSortX X.prog X.w) := by
  intro pins s σ H xs us Q I r q
  obtain ⟨a, l, rfl, hA, h64, q⟩ := q
  obtain ⟨u, rfl, ru⟩ := vals1 r
  cases (show u = Value.ref a from ru)
  obtain ⟨⟨es, ep, t⟩, ho, F, nd, hb, hr, hl⟩ := (show SetTx X.prog X.w s.heap a l from (I.hok a _ hA).1)
  have es1 : es.size = l.length := F.sz
  refine Calls.call_function_entry PyProof.Rows.kind_sorted PyProof.Rows.plain_sorted PyProof.Rows.entry_sorted (PyProof.Rows.args_sorted1 _) ?_
  unfold Builtin.«sorted»
  refine wpAny_bind (m := checkCount "sorted" 1 1 _) (wpAny_pure ?_)
  refine wpAny_bind (collect_set (A := X.A.in1) (I.ok.hd hc) ⟨_, ho, rfl, rfl⟩ F.fit (by rw [es1]; exact hb) hr hl (fun s1 vs k1 hz g1 o1 pm => ?_))
  have el : ∀ e ∈ es.toList, ∃ k t, e.2 = Value.str k t := by
    intro e he
    obtain ⟨⟨k, hk, _⟩, _⟩ := F.el e he
    obtain ⟨t, ht⟩ := Value.isStrOf_shape (x := k) (v := e.2) hk
    exact ⟨k, t, ht⟩
  have hS : StrsAre vs (vs.map txOf) := strs_of fun v hv => by
    obtain ⟨e, he, rfl⟩ := List.mem_map.mp (pm.mem_iff.mp hv)
    exact el e he
  have pk : (vs.map txOf).Perm l := by
    refine perm_of_nodup nd (fun x hx => ?_) ?_
    · obtain ⟨e, he, hk⟩ := (F.mem x).mp hx
      obtain ⟨t, ht⟩ := Value.isStrOf_shape (x := x) (v := e.2) hk
      refine List.mem_map.mpr ⟨e.2, pm.mem_iff.mpr (List.mem_map.mpr ⟨e, he, rfl⟩), ?_⟩
      rw [ht]; rfl
    · rw [List.length_map, pm.length_eq, List.length_map, Array.length_toList, es1]
      exact Nat.le_refl _
  have vl : vs.length < 64 := by
    have := pk.length_eq
    rw [List.length_map] at this
    omega
  have I1 : Inv X pins σ H s1 := I.call' (ch := []) o1 (Un.kept k1) (I.hok.kept k1) (by rw [g1]; exact I.bare) (fun _ z => nomatch z)
  refine wpAny_bind (wpAny_newList ?_ (Nat.le_of_lt (Nat.lt_trans vl (by decide))))
  have hoL : (s1.heap.push (seqObj "list" vs.toArray 0)).get? s1.heap.objs.size = some (seqObj "list" vs.toArray 0) := Heap.get?_push_size _ rfl
  show wpAny _ _ _ _ _ { s1 with heap := s1.heap.push (seqObj "list" vs.toArray 0) }
  refine wpAny_bind (wpAny_holding (wpAny_call_entry PyProof.Rows.slot_list_sort ⟨_, hoL, rfl⟩ PyProof.Rows.entry_list_sort
    (list_sort_treeK strKind_oneLt (s := { s1 with heap := s1.heap.push (seqObj "list" vs.toArray 0) }) hoL hS.keysOf (fun v₁ v₂ rest e => keyKind_strs (by rw [← e]; exact hS)) vl (fun st' hp hs => ⟨_, rfl, ?_⟩))
    (PyProof.Rows.args_list_sort _)))
  obtain ⟨ys, y1, y2, y3⟩ := sorted_out_str hS hp hs
  obtain ⟨c, hcc⟩ := PyProof.Rows.sortedHeap_at (vs := vs) (out := (arrOf st').map (·.2)) hoL
  have yl : (ys.map V.str).length ≤ sizeLine := by
    rw [List.length_map, y2.length_eq, List.length_map]
    exact Nat.le_of_lt (Nat.lt_trans vl (by decide))
  refine wpAny_pure ⟨_, rfl, .ref s1.heap.objs.size, upd H s1.heap.objs.size (.lst (ys.map V.str)), I1.laid (t' := s1.toks) (fun b o e => ?_) (Nat.le_refl _)
    (show ObjOk X.prog X.w _ _ _ (.lst (ys.map V.str)) from ⟨yl, ((arrOf st').map (·.2)).toList, c, vals_of_strs y1, by rw [Array.toArray_toList]; exact hcc⟩), rfl, q ys _ (y2.trans pk) y3 (I1.hok.fresh (Nat.le_refl _))⟩
  have lt : b < s1.heap.objs.size := Heap.lt_size e
  rw [PyProof.Rows.sortedHeap_old (Nat.ne_of_lt lt) (by rw [size_push']; exact Nat.lt_succ_of_lt lt)]
  exact Heap.get?_push_of_some _ e
end
end Rl
end
section
set_option maxHeartbeats 2000000
namespace Rl
open PySem PySem.Spec PyProof.Rows L2
theorem perm_map_inv {α β : Type} {f : α → β} : ∀ {m : List α} {l : List β}, l.Perm (m.map f) → ∃ m' : List α, m'.Perm m ∧ l = m'.map f
  | [], l, h => ⟨[], .nil, List.perm_nil.mp h⟩
  | x :: r, l, h => by
    have hx : f x ∈ l := h.mem_iff.mpr (by rw [List.map_cons]; exact List.mem_cons_self)
    obtain ⟨l1, l2, rfl⟩ := List.append_of_mem hx
    have h2 : (l1 ++ l2).Perm (r.map f) := (List.perm_middle.symm.trans h).cons_inv
    obtain ⟨m', pm, e⟩ := perm_map_inv h2
    obtain ⟨a, b, rfl, rfl, rfl⟩ := List.append_eq_map_iff.mp e
    exact ⟨a ++ x :: b, List.perm_middle.trans (pm.cons x), by rw [List.map_append, List.map_cons]⟩
/-- a pair of texts as a key of a dict -/
def pk (p : Str × Str) : List Key := [Sum.inr p.1, Sum.inr p.2]
def kx (p : Str × Str) : List (Int ⊕ List Nat) := [Sum.inr p.1.cps.toList, Sum.inr p.2.cps.toList]
/-- as Python sorts them -/
def ltP (p q : Str × Str) : Bool := lexLt itemOrd (kx p) (kx q)
section
variable {prog : Program} {w : World} {d : Addr} {es : Array DictEntry} {ep : Nat}
theorem rawSrc (lo : (d == sysModules) = false) : PySem.W.KdlSrc prog w "dict" d d es.size (fun i v => ∃ hi : i < es.size, v = es[i].key) (fun h => h.DictRaw d es ep) where
  type := fun _ hm => hm.typeIs
  there := fun _ hm => ⟨Heap.lt_size hm.choose_spec.1, Heap.lt_size hm.choose_spec.1⟩
  keep := fun _ _ hm hk => hm.at fun o e => hk d (.inl rfl) o e
  notList := by decide
  notTuple := by decide
  hint := fun _ _ _ _ hm hq => PySem.W.kdl_hint_dict hm.typeIs hq
  iter := fun A s hh hm => ⟨_, _, (fun _ _ hq => wpAny_pyIter_dict_raw lo hm hq), Walks.rawKeys hh _ d (Nat.ne_of_lt (Heap.lt_size hm.choose_spec.1)) es ep,
    ⟨⟨_, Heap.get?_push_size _ rfl, rfl, rfl⟩, hm.at fun o e => Heap.get?_push_of_some _ e⟩⟩
end
section
variable {X : Cx}
def rSortD : List V → Hp → VK → Prop := fun vs H Q => ∃ (a : Addr) (kvs : List (List Key × V)) (ps : List (Str × Str)), vs = [.ref a] ∧ Rd H a (.dT kvs) ∧ kvs.map (·.1) = ps.map pk ∧ ps.length ≤ 1000 ∧
  ∀ (qs : List (Addr × (Str × Str))) (p : Addr), (qs.map (·.2)).Perm ps → (qs.map (·.2)).Pairwise (fun x y => ltP y x = false) → (∀ q ∈ qs, H q.1 = some (.tup [.str q.2.1, .str q.2.2])) → H p = none →
    Q (.ref p) (upd H p (.lst (qs.map fun q => V.ref q.1)))
theorem pk_inj {p q : Str × Str} (h : pk p = pk q) : p = q := by
  obtain ⟨a, b⟩ := p
  obtain ⟨c, e⟩ := q
  simp only [pk, List.cons.injEq, Sum.inr.injEq, and_true] at h
  rw [h.1, h.2]
/-- the entries, told by their addresses and pairs -/
theorem kt_pairs {H : Hp} : ∀ {kvs : List (List Key × V)} {xs : List (List Key × Addr × Value)} {ps : List (Str × Str)}, Paired (fun (p : List Key × V) (q : List Key × Addr × Value) => p.1 = q.1 ∧ H q.2.1 = some (.tup (p.1.map kV)) ∧ RelV p.2 q.2.2) kvs xs →
    kvs.map (·.1) = ps.map pk → ∃ qs : List (Addr × (Str × Str)), qs.map (·.2) = ps ∧ xs.map (fun y => y.2.1) = qs.map (·.1) ∧ ∀ q ∈ qs, H q.1 = some (.tup [.str q.2.1, .str q.2.2])
  | [], _, ps, .nil, e => by
    have : ps = [] := List.map_eq_nil_iff.mp e.symm
    subst this
    exact ⟨[], rfl, rfl, fun q h => (List.not_mem_nil h).elim⟩
  | (k, v) :: r, _, [], .cons _ _, e => by simp at e
  | (k, v) :: r, _, p :: ps, .cons (b := y) h t, e => by
    rw [List.map_cons, List.map_cons] at e
    injection e with e1 e2
    obtain ⟨qs, h1, h2, h3⟩ := kt_pairs t e2
    have e1' : k = pk p := e1
    refine ⟨(y.2.1, p) :: qs, by rw [List.map_cons, h1], by rw [List.map_cons, List.map_cons, h2], fun q hq => ?_⟩
    rcases List.mem_cons.mp hq with rfl | hq
    · have := h.2.1
      rw [e1'] at this
      exact this
    · exact h3 q hq
theorem call_sortD (hc : X.calm = true) : CallR X (.builtin "sorted") rSortD := by
  intro pins s σ H xs us Q I r q
  obtain ⟨a, kvs, ps, rfl, hA, hks, hlen, q⟩ := q
  obtain ⟨u, rfl, ru⟩ := vals1 r
  cases (show u = Value.ref a from ru)
  obtain ⟨z, lo, ws, rel, dd⟩ := dt_rd I.hok hA
  obtain ⟨qs, hq1, hq2, hq3⟩ := kt_pairs rel hks
  obtain ⟨es, ep, raw, esz, hes⟩ := dd.raw
  have wl : ws.length = ps.length := by
    have := congrArg List.length hq2
    have h2 := congrArg List.length hq1
    simp only [List.length_map] at this h2
    omega
  have ql : qs.length = ps.length := by
    have h2 := congrArg List.length hq1
    simpa only [List.length_map] using h2
  refine Calls.call_function_entry PyProof.Rows.kind_sorted PyProof.Rows.plain_sorted PyProof.Rows.entry_sorted (PyProof.Rows.args_sorted1 _) ?_
  unfold Builtin.«sorted»
  refine wpAny_bind (m := checkCount "sorted" 1 1 _) (wpAny_pure ?_)
  refine wpAny_bind (PySem.W.kdu_collect (A := X.A.in1) (rawSrc lo) (I.ok.hd hc) raw (by rw [esz, wl]; exact Nat.le_of_lt (small1000 hlen)) (fun h' tk acc hk hacc => ?_))
  have vE : acc.toList = qs.map (fun q => Value.ref q.1) := by
    apply List.ext_getElem?
    intro i
    by_cases hi : i < acc.size
    · obtain ⟨hi2, e⟩ := hacc.2 i acc[i] (Array.getElem?_eq_getElem hi)
      obtain ⟨y, y1, y2, _⟩ := hes i hi2
      have e3 : (ws.map (fun y => y.2.1))[i]? = some y.2.1 := by rw [List.getElem?_map, y1]; rfl
      rw [hq2, List.getElem?_map] at e3
      rw [Array.getElem?_toList, Array.getElem?_eq_getElem hi, e, y2, List.getElem?_map]
      cases h5 : qs[i]? with
      | none => rw [h5] at e3; cases e3
      | some q5 =>
        rw [h5] at e3
        have : q5.1 = y.2.1 := Option.some.inj e3
        show some (Value.ref y.2.1) = some (Value.ref q5.1)
        rw [this]
    · rw [List.getElem?_eq_none (by rw [Array.length_toList]; omega), List.getElem?_eq_none (by rw [List.length_map]; have := hacc.1; omega)]
  rw [vE]
  have I1 : Inv X pins σ H { s with heap := h', toks := tk } := I.kept hk
  have vl : (qs.map (fun q => Value.ref q.1)).length ≤ sizeLine := by rw [List.length_map, ql]; exact Nat.le_of_lt (small1000 hlen)
  refine wpAny_bind (wpAny_newList ?_ vl)
  have hoL : (h'.push (seqObj "list" (qs.map (fun q => Value.ref q.1)).toArray 0)).get? h'.objs.size = some (seqObj "list" (qs.map (fun q => Value.ref q.1)).toArray 0) := Heap.get?_push_size _ rfl
  show wpAny _ _ _ _ _ { s with heap := h'.push (seqObj "list" (qs.map (fun q => Value.ref q.1)).toArray 0), toks := tk }
  have tup : ∀ q ∈ qs, ∃ o n t1 t2, (h'.push (seqObj "list" (qs.map (fun q => Value.ref q.1)).toArray 0)).get? q.1 = some o ∧ o.cls = .type "tuple" ∧ o.data = .seq #[.str q.2.1 t1, .str q.2.2 t2] n := by
    intro q hq
    obtain ⟨_, its, rv, o, ho, hcl, n, hd⟩ := (show ObjOk X.prog X.w H h' q.1 (.tup [.str q.2.1, .str q.2.2]) from I1.hok q.1 _ (hq3 q hq))
    cases rv with
    | cons r1 r2 =>
      cases r2 with
      | cons r2 r3 =>
        cases r3
        obtain ⟨t1, rfl⟩ := r1
        obtain ⟨t2, rfl⟩ := r2
        exact ⟨o, n, t1, t2, Heap.get?_push_of_some _ ho, hcl, hd⟩
  have key : ∀ q ∈ qs, G.tupKeyC (h'.push (seqObj "list" (qs.map (fun q => Value.ref q.1)).toArray 0)) (fun _ => true) (.ref q.1) = some (kx q.2) := by
    intro q hq
    obtain ⟨o, n, t1, t2, ho, hcl, hd⟩ := tup q hq
    unfold G.tupKeyC G.isTupObj tupKey
    simp only [ho, hcl, hd]
    rfl
  have tof : ∀ {l : List (Addr × (Str × Str))}, (∀ q ∈ l, q ∈ qs) → ∃ fs, TupsOf (h'.push (seqObj "list" (qs.map (fun q => Value.ref q.1)).toArray 0)) (fun _ => true) (l.map (fun q => Value.ref q.1)) fs := by
    intro l
    induction l with
    | nil => intro _; exact ⟨[], .nil⟩
    | cons q r ih =>
      intro h
      obtain ⟨fs, hf⟩ := ih fun x hx => h x (List.mem_cons_of_mem _ hx)
      obtain ⟨o, n, t1, t2, ho, hcl, hd⟩ := tup q (h q List.mem_cons_self)
      exact ⟨.str q.2.1 t1 :: fs, .cons ⟨q.1, o, _, n, rfl, ho, hcl, hd, rfl, fun z => Bool.noConfusion z, fun _ => ⟨_, _, rfl⟩⟩ hf⟩
  obtain ⟨fs, hfs⟩ := tof (l := qs) fun _ h => h
  have hkk : ∀ v ∈ qs.map (fun q => Value.ref q.1), ∃ l, G.tupKeyC (h'.push (seqObj "list" (qs.map (fun q => Value.ref q.1)).toArray 0)) (fun _ => true) v = some l := by
    intro v hv
    obtain ⟨q, hq, rfl⟩ := List.mem_map.mp hv
    exact ⟨_, key q hq⟩
  refine wpAny_bind (wpAny_holding (wpAny_call_entry PyProof.Rows.slot_list_sort ⟨_, hoL, rfl⟩ PyProof.Rows.entry_list_sort
    (G.list_sort_tups (s := { s with heap := h'.push (seqObj "list" (qs.map (fun q => Value.ref q.1)).toArray 0), toks := tk }) (shape := fun _ => true) (fs := fs) hoL hfs hkk vl (fun st' hp hs _ => ⟨_, rfl, ?_⟩)) (PyProof.Rows.args_list_sort _)))
  obtain ⟨c, hcc⟩ := PyProof.Rows.sortedHeap_at (vs := qs.map (fun q => Value.ref q.1)) (out := (arrOf st').map (·.2)) hoL
  have hpl : (arrOf st').toList.Perm (qs.map (fun q => (Value.ref q.1, Value.ref q.1))) := by
    have h1 := hp
    have h2 : (pairsOf (qs.map (fun q => Value.ref q.1))).toList = qs.map (fun q => (Value.ref q.1, Value.ref q.1)) := by
      rw [pairsOf_toList, List.zip_map', ]
    rw [← h2]
    exact h1.toList
  obtain ⟨L, pL, eL⟩ := perm_map_inv hpl
  have hout : ((arrOf st').map (·.2)).toList = L.map (fun q => Value.ref q.1) := by
    rw [Array.toList_map, eL, List.map_map]; rfl
  have kOf := G.tupKeys hkk
  have srt := keyLe_of_sorted (kOf.perm hp) (by rw [hp.size_eq]; exact hs)
  rw [eL] at srt
  have memL : ∀ q ∈ L, q ∈ qs := fun q hq => pL.mem_iff.mp hq
  have sL : (L.map (·.2)).Pairwise (fun x y => ltP y x = false) := by
    rw [List.pairwise_map] at srt ⊢
    refine srt.imp_of_mem ?_
    intro x y hx hy h
    obtain ⟨a1, b1, ka, kb, le⟩ := h
    have e1 : some a1 = some (kx x.2) := ka.symm.trans (key x (memL x hx))
    have e2 : some b1 = some (kx y.2) := kb.symm.trans (key y (memL y hy))
    rw [Option.some.inj e1, Option.some.inj e2] at le
    exact le
  have ll : (L.map (fun q => V.ref q.1)).length ≤ sizeLine := by rw [List.length_map, pL.length_eq, ql]; exact Nat.le_of_lt (small1000 hlen)
  have vals : ∀ l : List (Addr × (Str × Str)), Vals (l.map (fun q => V.ref q.1)) (l.map (fun q => Value.ref q.1)) := by
    intro l
    induction l with
    | nil => exact .nil
    | cons x r ih => exact .cons rfl ih
  refine wpAny_pure ⟨_, rfl, .ref h'.objs.size, upd H h'.objs.size (.lst (L.map fun q => V.ref q.1)), I1.laid (t' := tk) (fun b o e => ?_) (Nat.le_refl _)
    (show ObjOk X.prog X.w _ _ _ (.lst (L.map fun q => V.ref q.1)) from ⟨ll, L.map (fun q => Value.ref q.1), c, vals L, by rw [← hout, Array.toArray_toList]; exact hcc⟩), rfl,
    q L _ (by rw [← hq1]; exact pL.map _) sL (fun x hx => hq3 x (memL x hx)) (I1.hok.fresh (Nat.le_refl _))⟩
  have lt : b < h'.objs.size := Heap.lt_size e
  rw [PyProof.Rows.sortedHeap_old (Nat.ne_of_lt lt) (by rw [size_push']; exact Nat.lt_succ_of_lt lt)]
  exact Heap.get?_push_of_some _ e
end
end Rl
end
section
namespace Nl
open PySem PySem.Spec PyProof.Rows L2
/-! ### the text -/
def tp (i : Nat) : Stmt := PySem.Challenge.pw_backwater_k16_ways_out.main.body.getD i (.Pass ⟨0, 0, 0, 0⟩)
abbrev s_wall : Stmt := tp 0
abbrev sWhole : Stmt := tp 13
abbrev sName : Stmt := tp 19
abbrev sMeas : Stmt := tp 20
abbrev sPondOf : Stmt := tp 21
abbrev sPairOf : Stmt := tp 22
abbrev sGoes : Stmt := tp 23
abbrev sComes : Stmt := tp 24
abbrev sPipesOut : Stmt := tp 25
abbrev sPipesIn : Stmt := tp 26
abbrev sSteps : Stmt := tp 27
abbrev sCkPonds : Stmt := tp 28
abbrev sCkPipes : Stmt := tp 29
abbrev sCkSides : Stmt := tp 30
abbrev sCkWays : Stmt := tp 31
abbrev mNet_init : Stmt := inClass (tp 32) 0
abbrev mNet_has_pond : Stmt := inClass (tp 32) 1
abbrev mNet_check_pond : Stmt := inClass (tp 32) 2
abbrev mNet_ponds : Stmt := inClass (tp 32) 3
abbrev mNet_brim : Stmt := inClass (tp 32) 4
abbrev mNet_soaks : Stmt := inClass (tp 32) 5
abbrev mNet_width : Stmt := inClass (tp 32) 6
abbrev mNet_outs : Stmt := inClass (tp 32) 7
abbrev mNet_brims : Stmt := inClass (tp 32) 9
abbrev mNet_pipes : Stmt := inClass (tp 32) 10
abbrev mNet_eq : Stmt := inClass (tp 32) 11
abbrev mNet_len : Stmt := inClass (tp 32) 12
abbrev mNet_repr : Stmt := inClass (tp 32) 13
abbrev s_way_out : Stmt := tp 34
abbrev sPot : Stmt := tp 36
abbrev sDraw : Stmt := tp 37
abbrev sLName : Stmt := tp 38
abbrev sClosed : Stmt := tp 39
abbrev sRoom : Stmt := tp 40
abbrev sNet : Stmt := tp 41
abbrev s_law_ways : Stmt := tp 42
abbrev s_law_are_told : Stmt := tp 43
abbrev sRefused : Stmt := tp 44
abbrev s_law_other : Stmt := tp 45
abbrev s_law_layered : Stmt := tp 46
abbrev sRight : Stmt := tp 47
abbrev sLaw : Stmt := tp 48
abbrev xBadName : Stmt := inClass (tp 5) 0
abbrev xTooMany : Stmt := inClass (tp 6) 0
abbrev xBadBrim : Stmt := inClass (tp 7) 0
abbrev xBadPipe : Stmt := inClass (tp 8) 0
abbrev xTooWide : Stmt := inClass (tp 9) 0
abbrev xClosed : Stmt := inClass (tp 10) 0
abbrev xNoPond : Stmt := inClass (tp 11) 0
end Nl
end
section
set_option maxHeartbeats 4000000
namespace Rl
open PySem PySem.Spec PyProof.Rows PySem.Calls L2 NdefX
/-! ### own exceptions whose __init__ begins with super().__init__(..) -/
/-- what the written part says of the class at C and of its __init__ at f -/
structure SuX (P : Program) (K : PySem.W.Frag) (mg : Str → Option Value) (C f : Addr) (st : Stmt) (qual : Str) (fd : FuncData) (cda cc : Addr) : Prop where
  o : OexC K C
  iC : PySem.W.findIn K (.ref C) "__init__" = some (some (.ref f))
  tI : PySem.W.typeIn K (.ref f) = some (.type "function")
  su : PySem.W.ks_superIn K C C "__init__" = some (some (.builtin "ValueError.__init__"))
  ve : PySem.W.subIn K (.ref C) (.type "ValueError") = some true
  me : PySem.W.mroIn K C (.ref C) = some true
  opq : PySem.W.nsIn K cStatics "thirdparty.any" = some none
  fn : ∃ (oc : Value) (od : Option Addr) (kV doc pm : Value) (an : Option Addr) (ct : Value) (osl : Array (Option Value)),
    fd = PySem.W.fnX "__init__" qual (defArgs st) (defBody st) (defScope st) [("__class__", cc)] .none kV doc pm an (.ref cda) ct ∧ K.lookup f = some ⟨oc, od, .func fd, osl⟩
  cd : PySem.W.codeIn K (.ref cda) qual = true
  code : ∃ (c : Value) (d : Option Addr) (vs : Array Value) (sl : Array (Option Value)) (file : Str) (tf : Tok), K.lookup cda = some ⟨c, d, .fields vs, sl⟩ ∧ vs[2]? = some (.str file tf) ∧ ((P.main.file : Str) == file) = true
  cell : ∃ (c : Value) (d : Option Addr) (sl : Array (Option Value)), K.lookup cc = some ⟨c, d, .cell (some (.ref C)), sl⟩
  nosu : mg "super" = none
  top : (P.main.scope.names.lookup ("super" : Str)).isSome = false
/-- ValueError.__init__, bound to the exception at e, called -/
theorem call_veb {prog : Program} {w : World} {A : Around} {E : Value → Shared → Prop} {hp : Heap} {g : Array GenState} {d : Drawn} {tk : Nat} {os : OsState} {nm q : Str} {C N : Addr} {bs bm : List Value} {hd : Bool} {sn : List Str} {sub : List Value} {ab : Bool} {col : Option Bool}
    {dd : Option Addr} {k0 k1 k2 k3 k5 : Option Value} {u e t0 : Addr} {us : List Value} {Q : Value → Shared → Prop}
    (hC : hp.get? C = some (excClassObj nm q C N bs bm hd sn sub ab col dd k0 k1 k2 k3 k5 "ValueError.__new__")) (he : hp.get? e = some (PySem.HandSPX.excO C t0)) (hu : hp.get? u = some (PySem.W.kxs_mw "ValueError.__init__" e)) (hl : us.length ≤ sizeLine)
    (hq : ∀ h' t1, (∀ b o, b ≠ e → hp.get? b = some o → h'.get? b = some o) → h'.get? e = some (PySem.HandSPX.excO C t1) → Q .none ⟨h', g, d, tk, os⟩) : wpAny (model prog w) A (call (.ref u) us) Q E ⟨hp, g, d, tk, os⟩ := by
  refine wpAny_call (codeAny_of_tree ?_)
  show wpAny _ A.in1 (callAny (.ref u) ⟨us, []⟩) _ _ _
  simp only [callAny]
  refine wpAny_bind (wpAny_load hu ?_)
  have b1 : (Value.type "method-wrapper" == Value.type "method" || Value.type "method-wrapper" == Value.type "builtin_function_or_method" || Value.type "method-wrapper" == Value.type "method-wrapper") = true := by decide
  simp only [PySem.W.kxs_mw, b1, if_true]
  refine PySem.W.KFB.if_so (by decide) (wpAny_bind (PySem.W.check_bound_init F.excBase_ValueError.toExcCallFacts hC he rfl (wpAny_bind (wpAny_pure (wpAny_pure ?_)))))
  refine ⟨plainId_quiet F.excBase_ValueError.init.plain _, codeAny_builtin F.excBase_ValueError.initEntry ?_⟩
  exact PySem.W.exc_init_tree (cls := .ref C) (t0 := t0) (dv := none) (c2 := .none) (c3 := .none) (b4 := .bool false) he hl fun h' k e' _ => hq h' _ k e'
section
variable {CX : CXT} {P : Program} {w : World} {K : PySem.W.Frag} {mg : Str → Option Value} {base : Heap} {N ps : List Str} {k : Nat} {sp : Sp} {st : Stmt} {qual : Str} {fd : FuncData} {C f cda cc : Addr} {e : Expr} {es : List Expr} {rest : List Stmt} {p0 p1 p2 p3 p4 : Pos}
abbrev nfX (st : Stmt) (qual : Str) (cda cc : Addr) : NF := ⟨"__init__", qual, defArgs st, defBody st, defScope st, [("__class__", cc)], cda⟩
theorem exi_of (T : SuX P K mg C f st qual fd cda cc) (hst : defBody st = .Expr (.Call (.Attribute (.Call (.Name "super" p0) [] [] p1) "__init__" p2) (e :: es) [] p3) p4 :: rest)
    (hself : ((defArgs st).posonlyargs ++ (defArgs st).args).head?.map (·.arg) = some ("self" : Str)) (S : NScope N ps ["__class__"] (defScope st)) (hps : ps[0]? = some ("self" : Str)) (hks : (defScope st).names.lookup ("super" : Str) = some .globalImplicit)
    (len : ∀ vs H Q E, sp vs H Q E → vs.length = ps.length)
    (hbody : ∀ (A : Around) (outer : List Env) (s : Shared) (H : Hp) (vs : List V) (Q : VK) (E : XK), Room k (A.deeper (envF (nfX st qual cda cc) f s.heap.objs.size)) → sp vs H Q E →
      ∃ (a : Addr) (ws : List V) (ta : TA) (t : TS), vs = .ref a :: ws ∧ H a = some (exo a C none) ∧ PA (ncx CX P w K mg base N (nfX st qual cda cc) f A outer s H E) (e :: es) ta ∧ PSs (ncx CX P w K mg base N (nfX st qual cda cc) f A outer s H E) rest t ∧
        ta (startF N vs [none]) H fun us H1 => us.length ≤ 1000 ∧ H1 a = some (exo a C none) ∧ t { nx := fun _ H' => Q .non H', rt := Q } (startF N vs [none]) H1)
    (he : ∀ env, starEach (e :: es) env = (false, eval e env) :: starEach es env := by intro _; rfl) (hpl : ∀ env, (backTo p3 (starEach es env)).any (·.1) = false := by intro _; rfl)
    (hme : ∀ env, ∃ pl : Sem Bool, eval (.Call (.Attribute (.Call (.Name "super" p0) [] [] p1) "__init__" p2) (e :: es) [] p3) env = (do
      let v ← attributeBase (.Call (.Name "super" p0) [] [] p1) "__init__" env (eval (.Call (.Name "super" p0) [] [] p1) env)
      standAt p2.atName
      let (g, first) ← holding [v] (getMethod v "__init__" pl)
      callWith p3 g first (backTo p3 (starEach (e :: es) env)) []) := by intro _; exact ⟨_, rfl⟩) :
    FnOk P w K mg base CX (k + 1) f fd ps sp := by
  refine ⟨len, fun A outer s H args us vs Q E hr e0 hb r hsp => ?_⟩
  have hl := len _ _ _ _ hsp
  have KX : K.In s.heap := e0.mod.kin.keeps fun b o e => (e0.bs b o e).1
  have lim : s.heap.NoLimit := e0.mod.nolimit.keeps fun b o e => (e0.bs b o e).1
  obtain ⟨oc, od, kV, doc, pm, an, ct, osl, rfl, lk⟩ := T.fn
  obtain ⟨a, ws, ta, t, rfl, ea, hPA, hPS, hq⟩ := hbody A outer s H vs Q E (hr.deeper _) hsp
  obtain ⟨c1, d1, csl, hcc⟩ := T.cell
  have Hcc : H cc = none := (e0.bs cc _ (e0.mod.kin _ _ hcc)).2
  have CA : CellsAt [(("__class__" : Str), cc)] ["__class__"] [none] s.heap H := ⟨rfl, fun y c e => by
      by_cases hy : y = "__class__"
      · subst hy
        simp [List.lookup] at e
        subst e
        exact ⟨Hcc, _, _, KX _ _ hcc, rfl⟩
      · have z : (y == ("__class__" : Str)) = false := by simpa using hy
        simp [List.lookup, z] at e, fun x y c e1 e2 => by
      by_cases hx : x = "__class__"
      · by_cases hy : y = "__class__"
        · rw [hx, hy]
        · have z : (y == ("__class__" : Str)) = false := by simpa using hy
          simp [List.lookup, z] at e2
      · have z : (x == ("__class__" : Str)) = false := by simpa using hx
        simp [List.lookup, z] at e1, fun i y hy => by
      cases i with
      | zero =>
        have hy' : ("__class__" : Str) = y := by simpa using hy
        subst hy'
        exact ⟨cc, by simp [List.lookup], fun v hv => by simp at hv⟩
      | succ n => simp at hy⟩
  refine ks_codeAny_call_defAt hr.depth (KX _ _ lk) rfl lim (PySem.W.codeRec_of KX T.cd) rfl hb S.nocell (fun ⟨n, _⟩ hy => S.par n (List.of_mem_zip hy).1) (fun h₁ hns kp => ?_) S.co S.gen S.kind
  show PySem.wpAt _ (A.deeper (envF (nfX st qual cda cc) f s.heap.objs.size)) (.func (defBody st) (envF (nfX st qual cda cc) f s.heap.objs.size)) (execs (defBody st) (envF (nfX st qual cda cc) f s.heap.objs.size)) _ _ _
  have I : Inv (ncx CX P w K mg base N (nfX st qual cda cc) f A outer s H E) [] (startF N (.ref a :: ws) [none]) H { s with heap := h₁, toks := s.toks + (ps.zip us).length } := inv_startN S hr.hd e0 hl r CA hns kp
  rw [hst]
  obtain ⟨ar, har, hsf⟩ : ∃ ar, ((defArgs st).posonlyargs ++ (defArgs st).args).head? = some ar ∧ ar.arg = "self" := by
    cases z : ((defArgs st).posonlyargs ++ (defArgs st).args).head? with
    | none => rw [z] at hself; cases hself
    | some ar => rw [z] at hself; exact ⟨ar, rfl, Option.some.inj hself⟩
  obtain ⟨cc1, cd1, cvs, csl1, file, tf, hcode, hvs, hfile⟩ := T.code
  obtain ⟨nm, q, NN, bs, bm, sn, sub, ab, col, dd, k0, k1, k2, k3, k5, hC, hbm⟩ := T.o.cls
  have hcl : PySem.W.clsIn K C = some { name := nm, bases := bs, mro := .ref C :: bm, ns := NN, qualname := q, hasDict := true, slotNames := sn, subclasses := sub, abstract := ab, collection := col, hasDel := false } := by unfold PySem.W.clsIn; rw [hC] <;> rfl
  have hsu := T.su
  unfold PySem.W.ks_superIn at hsu
  rw [hcl, Option.bind_some] at hsu
  obtain ⟨t1, hx⟩ := exo_at I.hok ea
  obtain ⟨mb, hb1, hb2⟩ := I.mod.blt
  have hkc : (defScope st).names.lookup ("__class__" : Str) = some .free := S.frk _ (by simp)
  have hka : (defScope st).names.lookup ("self" : Str) = some .local := S.par _ (List.mem_of_getElem? hps)
  have ndP : ps.Nodup := by
    have z := S.nd.sublist (List.take_sublist (ps.length + 1) N)
    rw [show ps.length + 1 = ps.length + (["__class__"] : List Str).length from rfl, S.pre] at z
    exact (List.nodup_append.mp z).1
  cases r with
  | @cons _ u0 _ ur ra rw' =>
  obtain rfl : u0 = Value.ref a := ra
  have hv : (ps.zip (Value.ref a :: ur)).reverse.lookup ("self" : Str) = some (.ref a) := zip_look ndP hps rfl
  have XK := I.kIn
  obtain ⟨pl, hm⟩ := hme (envF (nfX st qual cda cc) f s.heap.objs.size)
  refine ks_wpAt_execs_cons (ks_wpAt_Expr_any (ks_wpAt_MethodCall (pl := pl) ?_ hm) I.quiet rfl)
  refine ks_wpAt_super_base (env := envF (nfX st qual cda cc) f s.heap.objs.size) hks hkc (by decide) rfl (XK _ _ lk) rfl har rfl (XK _ _ hcode) rfl hvs hfile T.top ?_
  refine PySem.W.ks_loadName_global S.kind hks (loadGlobal_builtin (I.mod.glob.keeps I.bk) T.nosu (hb1.keeps I.bk) ((hb2 _ (by decide)).trans (by kernel_rfl)) ⟨rfl, ?_⟩)
  refine wpAny_loadName_free S.kind hkc (by rfl) ⟨_, XK _ _ hcc, rfl⟩ ?_
  rw [hsf]
  refine wpAny_loadName_local S.kind hka hns hv ?_
  refine ks_wpAny_isType_cls (XK _ _ hC) rfl ⟨rfl, ?_⟩
  refine ks_wpAny_call_super (XK _ _ hC) rfl hx rfl (fun c z => by cases z) (PySem.W.looks_mroIn XK T.me) (fun h2 hso kp2 => ?_)
  have I2 := I.kept (t' := s.toks + (ps.zip (Value.ref a :: ur)).length) kp2
  have hxC : a ≠ C := fun z => by
    rw [z] at ea
    have y := (e0.bs C _ (e0.mod.kin _ _ hC)).2
    rw [ea] at y
    cases y
  have hI : PySem.W.Looks (model P w) h2 (isInstance (.ref a) (.type "ValueError")) true := by
    have J : PySem.W.InstAt h2 a _ C none := ⟨kp2 _ _ hx, rfl, rfl, trivial⟩
    exact J.type.andThen (PySem.W.looks_subIn I2.kIn T.ve)
  refine PySem.W.kxs_getMethod PySem.W.kxs_ValueError hso (PySem.W.looks_opaque I2.kIn T.opq) (fun A' Q' E' s' k' q' => wpAny_bind ((PySem.W.looks_clsIn I2.kIn hcl) A' _ E' s' k' (wpAny_pure q'))) rfl I2.kIn hsu hI hxC (by decide) ?_
  have I3 := (I2.kept (h' := h2.push (PySem.W.kxs_mw "ValueError.__init__" a)) (t' := s.toks + (ps.zip (Value.ref a :: ur)).length + 1) fun b o z => Heap.get?_push_of_some _ z).pins_of (pins' := [(h2.objs.size, PySem.W.kxs_mw "ValueError.__init__" a)]) (fun p hp => by
    rw [List.mem_singleton.mp hp]
    exact ⟨Heap.get?_push_at rfl rfl, I2.hok.fresh (Nat.le_refl _), Nat.ne_of_gt I2.lt, I2.nofs (Nat.le_refl _), fun v z => by cases z⟩)
  refine PySem.W.kxs_callWith (i := "ValueError.__init__") (x := a) (by rw [he]; show (false || (backTo p3 (starEach es _)).any (·.1)) = false; rw [hpl]; rfl) ?_
  have hev := he (envF (nfX st qual cda cc) f s.heap.objs.size)
  rw [hev]
  refine evalArgs_plain ?_
  show wpAny _ _ (spliced (backTo p3 ((false, eval e (envF (nfX st qual cda cc) f s.heap.objs.size)) :: starEach es (envF (nfX st qual cda cc) f s.heap.objs.size)))) _ _ _
  rw [← hev]
  refine thn (hPA.run p3 _ _ _ H _ I3 hq) fun us4 s4 ⟨vs4, H4, I4, r4, l4, e4, q4⟩ => ⟨(I4.pin _ (List.mem_append_right _ List.mem_cons_self)).1, ?_⟩
  obtain ⟨t4, h4⟩ := exo_at I4.hok e4
  have hu4 := (I4.pin _ (List.mem_append_right _ List.mem_cons_self)).1
  have K4 := I4.kIn
  obtain ⟨hp4, g4, d4, tk4, os4⟩ := s4
  refine call_veb (K4 _ _ hC) h4 hu4 (by show us4.length ≤ sizeLine; rw [← Paired.length r4, sizeLine_eq]; omega) fun h' t5 k5' e5 => ?_
  have J := I4.write (t' := tk4) (x := a) (e := a) (o := exo a C none) (by rw [e4]; exact True.intro) (.inl rfl) k5' ⟨_, e5⟩ (exo_ok e5)
  have eu : upd H4 a (exo a C none) = H4 := by
    funext b
    by_cases hb : b = a
    · rw [hb, upd_same, e4]
    · rw [upd_ne hb]
  rw [eu] at J
  show PySem.wpAt _ _ _ (execs rest _) _ _ _
  refine wpAt_of_wpAny (wpAny_mono (hPS.run _ _ _ H4 _ J q4) (fun fl s' hs => ?_) fun e s' hs => hs)
  have fin : ∀ {σ' : L2.St} {H' : Hp} {v : V} {u : Value} {pins : List (Addr × Obj)}, Inv (ncx CX P w K mg base N (nfX st qual cda cc) f A outer s H E) pins σ' H' s' → L2.RelV v u → Q v H' → CE outer P w H s Q u s' :=
    fun {σ' H' v u pins} J rv q => ⟨v, H', J.os, J.bare, J.base, J.hok, rv, q⟩
  cases fl with
  | ret u =>
    obtain ⟨v, σ', H', J', rv, q'⟩ := hs
    exact fin J' rv q'
  | next =>
    obtain ⟨σ', H', J', q'⟩ := hs
    exact fin (v := V.non) (u := Value.none) J' rfl q'
  | brk =>
    obtain ⟨_, _, _, q'⟩ := hs
    exact False.elim q'
  | cont =>
    obtain ⟨_, _, _, q'⟩ := hs
    exact False.elim q'
theorem SuX.binds (T : SuX P K mg C f st qual fd cda cc) (h : ∀ (kV doc pm : Value) (an : Option Addr) (ct : Value) (us : List Value), us.length = ps.length → bindArgs (PySem.W.fnX "__init__" qual (defArgs st) (defBody st) (defScope st) [("__class__", cc)] .none kV doc pm an (.ref cda) ct) ⟨us, []⟩ = pure (ps.zip us)) : Binds K fd ps [] := by
  obtain ⟨oc, od, kV, doc, pm, an, ct, osl, rfl, lk⟩ := T.fn
  exact .all (h kV doc pm an ct)
end
end Rl
end
section
set_option maxHeartbeats 2000000
namespace Rl
open PySem PySem.Spec PyProof.Rows L2
/-! ### the head's facts of own exceptions -/
/-- the class at C is an own exception over ValueError -/
def oexB (K : PySem.W.Frag) (C : Addr) : Bool := match K.lookup C with
  | some ⟨.type t, _, .cls cd, sl⟩ => (match cd.mro, sl.toList with
    | .ref D :: bm, [_, _, _, _, some (.builtin n), _] => decide (t = "type") && (decide (D = C) && (decide (n = "ValueError.__new__") && (!cd.hasDel && (cd.hasDict && PySem.HandSPX.refsVE bm))))
    | _, _ => false)
  | _ => false
theorem oexB_ok {K : PySem.W.Frag} {C : Addr} (h : oexB K C = true) :
    ∃ nm q N bs bm sn sub ab col dd k0 k1 k2 k3 k5, K.lookup C = some (excClassObj nm q C N bs bm true sn sub ab col dd k0 k1 k2 k3 k5 "ValueError.__new__") ∧ PySem.HandSPX.refsVE bm = true := by
  unfold oexB at h
  split at h
  · rename_i t dd cd sl ho
    split at h
    · rename_i D bm k0 k1 k2 k3 n k5 hm hs
      obtain ⟨h1, h⟩ := He.ba h
      obtain ⟨h2, h⟩ := He.ba h
      obtain ⟨h3, h⟩ := He.ba h
      obtain ⟨h4, h⟩ := He.ba h
      obtain ⟨h5, h6⟩ := He.ba h
      have e1 := of_decide_eq_true h1
      have e2 := of_decide_eq_true h2
      have e3 := of_decide_eq_true h3
      subst e1 e2 e3
      obtain ⟨nm, bs, mro, ns, qn, hd, sn, sub, ab, col, del⟩ := cd
      have e4 : del = false := by simpa using h4
      have e5 : hd = true := h5
      dsimp only at hm
      subst hm e4 e5
      have hsl : sl = #[k0, k1, k2, k3, some (.builtin "ValueError.__new__"), k5] := by
        obtain ⟨l⟩ := sl
        simp only at hs
        rw [hs]
      subst hsl
      exact ⟨nm, qn, ns, bs, bm, sn, sub, ab, col, dd, k0, k1, k2, k3, k5, ho, h6⟩
    · cases h
  · cases h
abbrev XW : Type := Option (Str × Str × Arguments × FuncBody × Scope × Addr × List Str × Addr)
/-- the words of the __init__ of the class named x -/
def xiW (K : PySem.W.Frag) (x : Str) : XW := match K.lookup (He.ma K (He.ga K x) "__init__") with
  | some ⟨_, _, .func fd, _⟩ => some (fd.name, fd.qualname, fd.params, fd.body, fd.scope, fd.globals, fd.closure.map (·.1), fd.builtins)
  | _ => none
def xiV (st : Stmt) (qual : Str) : XW := some ("__init__", qual, defArgs st, .stmts (defBody st), defScope st, mainGlobals, ["__class__"], builtinsNs)
/-- its defaults, code and cell -/
def xiF (K : PySem.W.Frag) (C f : Addr) (file qual : Str) : Bool := match K.lookup f with
  | some ⟨_, _, .func fd, _⟩ => (match fd.defaults, fd.code, fd.closure with
    | .none, .ref cda, [(_, cc)] => PySem.W.codeIn K (.ref cda) qual && ((match K.lookup cda with
        | some ⟨_, _, .fields vs, _⟩ => (match (vs[2]? : Option Value) with
          | some (.str y _) => decide (y = file)
          | _ => false)
        | _ => false) && (match K.lookup cc with
        | some ⟨_, _, .cell (some (.ref D)), _⟩ => decide (D = C)
        | _ => false))
    | _, _, _ => false)
  | _ => false
def xiB (K : PySem.W.Frag) (C f : Addr) (file qual : Str) : Bool := oexB K C && (xiF K C f file qual && (decide (PySem.W.findIn K (.ref C) "__setattr__" = some (some (.builtin "object.__setattr__"))) && (decide (PySem.W.subIn K (.ref C) (.type "BaseException") = some true) && (decide (PySem.W.typeIn K (.ref C) = some (.type "type")) &&
  (PySem.W.keepIn K (.ref C) && (decide (PySem.W.findIn K (.ref C) "__init__" = some (some (.ref f))) && (decide (PySem.W.typeIn K (.ref f) = some (.type "function")) && (decide (PySem.W.ks_superIn K C C "__init__" = some (some (.builtin "ValueError.__init__"))) &&
  (decide (PySem.W.subIn K (.ref C) (.type "ValueError") = some true) && (decide (PySem.W.mroIn K C (.ref C) = some true) && decide (PySem.W.nsIn K cStatics "thirdparty.any" = some none)))))))))))
theorem xi_ok {P : Program} {K : PySem.W.Frag} {mg : Str → Option Value} {x : Str} {st : Stmt} {qual file : Str} (e : xiW K x = xiV st qual) (c : xiB K (He.ga K x) (He.ma K (He.ga K x) "__init__") file qual = true) (hf : P.main.file = file) (ns : mg "super" = none) (tp : (P.main.scope.names.lookup ("super" : Str)).isSome = false) :
    ∃ fd cda cc, SuX P K mg (He.ga K x) (He.ma K (He.ga K x) "__init__") st qual fd cda cc := by
  obtain ⟨c1, c⟩ := He.ba c
  obtain ⟨c2, c⟩ := He.ba c
  obtain ⟨c3, c⟩ := He.ba c
  obtain ⟨c4, c⟩ := He.ba c
  obtain ⟨c5, c⟩ := He.ba c
  obtain ⟨c6, c⟩ := He.ba c
  obtain ⟨c7, c⟩ := He.ba c
  obtain ⟨c8, c⟩ := He.ba c
  obtain ⟨c9, c⟩ := He.ba c
  obtain ⟨c10, c⟩ := He.ba c
  obtain ⟨c11, c12⟩ := He.ba c
  unfold xiF at c2
  unfold xiW at e
  cases q : K.lookup (He.ma K (He.ga K x) "__init__") with
  | none =>
    rw [q] at c2
    cases c2
  | some o =>
    obtain ⟨oc, od, dt, osl⟩ := o
    rw [q] at c2 e
    cases dt with
    | func fd =>
      obtain ⟨n1, n2, n3, n4, n5, n6, n7, n8, n9, n10, n11, n12, n13, n14, n15⟩ := fd
      have e2 : (some (n1, n2, n3, n4, n5, n6, n7.map (·.1), n15) : XW) = xiV st qual := e
      unfold xiV at e2
      simp only [Option.some.injEq, Prod.mk.injEq] at e2
      obtain ⟨h1, h2, h3, h4, h5, h6, h7, h8⟩ := e2
      subst h1 h2 h3 h4 h5 h6 h8
      dsimp only at c2
      split at c2
      · rename_i cda nm cc
        obtain ⟨k1, k2⟩ := He.ba c2
        obtain ⟨k2, k3⟩ := He.ba k2
        have en : nm = "__class__" := by simpa using h7
        subst en
        refine ⟨_, cda, cc, ⟨oexB_ok c1, of_decide_eq_true c3, of_decide_eq_true c4, of_decide_eq_true c5, c6⟩, of_decide_eq_true c7, of_decide_eq_true c8, of_decide_eq_true c9, of_decide_eq_true c10, of_decide_eq_true c11, of_decide_eq_true c12, ⟨oc, od, n9, n10, n11, n12, n14, osl, rfl, q⟩, k1, ?_, ?_, ns, tp⟩
        · split at k2
          · rename_i c d vs sl hl
            split at k2
            · rename_i y t hy
              exact ⟨c, d, vs, sl, y, t, hl, hy, beq_iff_eq.mpr (hf.trans (of_decide_eq_true k2).symm)⟩
            · cases k2
          · cases k2
        · split at k3
          · rename_i c d D sl hl
            have eD := of_decide_eq_true k3
            subst eD
            exact ⟨c, d, sl, hl⟩
          · cases k3
      · cases c2
    | _ => cases c2
/-- what isinstance and the fields ask of the class -/
def xcB (K : PySem.W.Frag) (C : Addr) : Bool := xfB K C && (decide (PySem.W.findIn K (.ref C) "__class__" = some (some (.builtin "object.__class__"))) && (decide (PySem.W.specialIn K (.builtin "object.__class__") "__get__" = some (some (.builtin "getset_descriptor.__get__"))) && (decide (PySem.W.takesIn K (.builtin "object.__class__") = some true) && decide (PySem.W.mroIn K C (.type "object") = some true))))
theorem xcB_ok {K : PySem.W.Frag} {C : Addr} (h : xcB K C = true) : ExcC K C ∧ XfC K C := by
  obtain ⟨h1, h⟩ := He.ba h
  obtain ⟨h2, h⟩ := He.ba h
  obtain ⟨h3, h⟩ := He.ba h
  obtain ⟨h4, h5⟩ := He.ba h
  have x := xfB_ok h1
  exact ⟨⟨x.ga, x.gg, x.exC, x.hdC, of_decide_eq_true h2, of_decide_eq_true h3, of_decide_eq_true h4, of_decide_eq_true h5⟩, x⟩
end Rl
end
section
namespace Nl
open PySem PySem.Spec PyProof.Rows L2 Nt
/-! ### heaps -/
def Kp (p : Addr) (H H' : Hp) : Prop := ∀ b o, b ≠ p → H b = some o → H' b = some o
theorem Kp.trans {p : Addr} {H H1 H2 : Hp} (x : Kp p H H1) (y : Kp p H1 H2) : Kp p H H2 := fun b o n e => y b o n (x b o n e)
theorem Kp.new {p q : Addr} {H : Hp} {o : HO} (h : H q = none) : Kp p H (upd H q o) := fun b u _ e => by
  rw [upd_ne (ne_of_none e h)]; exact e
theorem Kp.here {p : Addr} {H : Hp} {o : HO} : Kp p H (upd H p o) := fun b u n e => by
  rw [upd_ne n]; exact e
theorem Kp.of_same {p : Addr} {H H' : Hp} (h : Same H H') : Kp p H H' := fun b o _ e => h b o e
theorem same_new {H : Hp} {p : Addr} {o : HO} (h : H p = none) : Same H (upd H p o) := fun b x e => by
  rw [upd_ne (ne_of_none e h)]; exact e
/-- behind a lock: all is as it was -/
theorem same_lock {H H1 : Hp} {d : Addr} {u : HO} {od : Obj} (hd : H d = some u) (s : Same (upd H d (.frz od u)) H1) : H1 d = some (.frz od u) ∧ Same H (upd H1 d u) := by
  refine ⟨s d _ upd_same, fun b o e => ?_⟩
  by_cases hb : b = d
  · subst hb
    rw [hd] at e
    rw [upd_same]; exact e
  · rw [upd_ne hb]
    exact s b o (by rw [upd_ne hb]; exact e)
/-! ### the two dicts -/
def bk (B : Br) : List (Key × V) := B.map fun p => (Sum.inr p.1, V.int p.2)
def pt (P : Pi) : List (List Key × V) := P.map fun p => (Rl.pk p.1, V.int p.2)
def getP (P : Pi) (q : Str × Str) : Option Int := (P.find? fun p => decide (p.1 = q)).map (·.2)
theorem valV_bk (B : Br) (x : Str) : valV (bk B) (Sum.inr x : Key) = (getB B x).map V.int := by
  induction B with
  | nil => rfl
  | cons p r ih =>
    unfold valV getB bk
    rw [List.map_cons, List.find?_cons, List.find?_cons]
    by_cases h : p.1 = x
    · have e1 : decide ((Sum.inr p.1 : Key) = Sum.inr x) = true := decide_eq_true (by rw [h])
      rw [show decide (((Sum.inr p.1 : Key), V.int p.2).1 = Sum.inr x) = true from e1, show decide (p.1 = x) = true from decide_eq_true h]; rfl
    · have e1 : decide ((Sum.inr p.1 : Key) = Sum.inr x) = false := decide_eq_false (fun z => h (Sum.inr.inj z))
      rw [show decide (((Sum.inr p.1 : Key), V.int p.2).1 = Sum.inr x) = false from e1, show decide (p.1 = x) = false from decide_eq_false h]
      exact ih
theorem valV_pt (P : Pi) (q : Str × Str) : valV (pt P) (Rl.pk q) = (getP P q).map V.int := by
  induction P with
  | nil => rfl
  | cons p r ih =>
    unfold valV getP pt
    rw [List.map_cons, List.find?_cons, List.find?_cons]
    by_cases h : p.1 = q
    · have e1 : decide (Rl.pk p.1 = Rl.pk q) = true := decide_eq_true (by rw [h])
      rw [show decide ((Rl.pk p.1, V.int p.2).1 = Rl.pk q) = true from e1, show decide (p.1 = q) = true from decide_eq_true h]; rfl
    · have e1 : decide (Rl.pk p.1 = Rl.pk q) = false := decide_eq_false (fun z => h (Rl.pk_inj z))
      rw [show decide ((Rl.pk p.1, V.int p.2).1 = Rl.pk q) = false from e1, show decide (p.1 = q) = false from decide_eq_false h]
      exact ih
theorem getP_of_mem {P : Pi} (nd : (P.map Prod.fst).Nodup) {q : Str × Str} {w : Int} (h : (q, w) ∈ P) : getP P q = some w := by
  induction P with
  | nil => exact (List.not_mem_nil h).elim
  | cons p r ih =>
    obtain ⟨n1, n2⟩ := List.nodup_cons.mp (show (p.1 :: r.map Prod.fst).Nodup from nd)
    unfold getP
    rw [List.find?_cons]
    rcases List.mem_cons.mp h with e | e
    · rw [← e]; simp
    · have ne : p.1 ≠ q := fun z => n1 (by rw [z]; exact List.mem_map.mpr ⟨_, e, rfl⟩)
      rw [decide_eq_false ne]
      exact ih n2 e
/-! ### texts -/
def Sm (n : Nat) (z : Str) : Prop := z.length ≤ n ∧ ∀ c ∈ z.cps.toList, c < 1000
theorem len_list (z : Str) : z.length = z.cps.toList.length := by
  show z.cps.size = _
  rw [Array.length_toList]
def abc : Str := "abcdefghijklmnopqrstuvwxyz"
def nameB (z : Str) : Bool := decide (1 ≤ z.length ∧ z.length ≤ 8) && z.cps.toList.all fun c => decide (c ∈ abc.cps.toList)
def Nm (z : Str) : Prop := nameB z = true
theorem abc_small : ∀ c ∈ abc.cps.toList, c < 1000 := by decide +kernel
theorem Nm.iff {z : Str} : Nm z ↔ (1 ≤ z.length ∧ z.length ≤ 8) ∧ ∀ c ∈ z.cps.toList, c ∈ abc.cps.toList := by
  unfold Nm nameB
  rw [Bool.and_eq_true, decide_eq_true_iff, List.all_eq_true]
  simp only [decide_eq_true_iff]
theorem Nm.sm {z : Str} (h : Nm z) : Sm 8 z := ⟨(Nm.iff.mp h).1.2, fun c hc => abc_small c ((Nm.iff.mp h).2 c hc)⟩
theorem Sm.mono {m n : Nat} {z : Str} (h : Sm m z) (l : m ≤ n) : Sm n z := ⟨Nat.le_trans h.1 l, h.2⟩
theorem Sm.fits {n : Nat} {z : Str} (h : Sm n z) (l : n ≤ 1000) : z.length ≤ sizeLine := Nat.le_of_lt (small1000 (Nat.le_trans h.1 l))
theorem line1000 {n : Nat} (h : n ≤ 1000) : n ≤ sizeLine := Nat.le_of_lt (small1000 h)
theorem decStr (a b : Str) : decide (V.str a = V.str b) = decide (a = b) := by
  by_cases h : a = b
  · rw [decide_eq_true h, decide_eq_true (by rw [h])]
  · rw [decide_eq_false h, decide_eq_false (fun z => h (V.str.inj z))]
section
variable {P : Program} {w : World} {K : PySem.W.Frag} {mg : Str → Option Value} {base : Heap}
/-! ### is_whole, is_name, is_measure -/
theorem scWhole : FnScope ["thing", "least"] ["thing", "least"] (defScope sWhole) := ⟨rfl, rfl, rfl, by decide +kernel, rfl, by decide +kernel, by decide +kernel⟩
def spWhole : Sp := fun vs H Q _ => ∃ i j : Int, vs = [.int i, .int j] ∧ Q (.bl (decide (i ≥ j))) H
theorem ok_whole {f : Addr} {fd : FuncData} {k : Nat} (F : Fun K "is_whole" "is_whole" sWhole f fd) (mi : mg "isinstance" = none) (mt : mg "int" = none) (mb : mg "bool" = none) :
    FnOk P w K mg base CX0 (k + 1) f fd ["thing", "least"] spWhole := by
  refine F.ok scWhole (fun vs H Q E h => ?_) (fun cdv A outer s H vs Q E hr h => ?_)
  · obtain ⟨i, j, rfl, _⟩ := h
    rfl
  · obtain ⟨i, j, rfl, q⟩ := h
    refine ⟨_, pss_one (ps_ret (pe_and (pe_callB call_isi (by rfl) mi (by decide +kernel) (pa_cons (pv 0) (pa_cons (pe_bltn (v := .ty "int") (by rfl) mt (by decide +kernel) rfl) pa_nil)))
      (pe_and (pe_not (pe_callB call_isi (by rfl) mi (by decide +kernel) (pa_cons (pv 0) (pa_cons (pe_bltn (v := .ty "bool") (by rfl) mb (by decide +kernel) rfl) pa_nil)))) (pe_one (pe_cmpR op_ge (pv 0) (pv 1) (nomark _)))))), ?_⟩
    refine ⟨.int i, rfl, .int i, .ty "int", .type "int", .type "int", true, rfl, .ty _, .base (.int i), kit_ty (by decide +kernel), true, rfl, iteT ?_⟩
    refine ⟨.int i, rfl, .int i, .ty "bool", .type "int", .type "bool", false, rfl, .ty _, .base (.int i), kit_ty (by decide +kernel), false, rfl, true, rfl, iteT ?_⟩
    exact ⟨.int i, rfl, .int j, rfl, i, j, rfl, rfl, q⟩
theorem scName : FnScope ["thing", "letter"] ["thing"] (defScope sName) := ⟨rfl, rfl, rfl, by decide +kernel, rfl, by decide +kernel, by decide +kernel⟩
def spName : Sp := fun vs H Q _ => ∃ z : Str, vs = [.str z] ∧ Sm 25 z ∧ ∀ H', Same H H' → Q (.bl (nameB z)) H'
theorem ok_name {f : Addr} {fd : FuncData} {k : Nat} {tm tl : Tok} (F : Fun K "is_name" "is_name" sName f fd) (mi : mg "isinstance" = none) (ms : mg "str" = none) (ml : mg "len" = none) (ma : mg "all" = none)
    (gM : mg "MOST_LETTERS" = some (.int 8 tm)) (gL : mg "LETTERS" = some (.str abc tl)) : FnOk P w K mg base CX0 (k + 1) f fd ["thing"] spName := by
  refine F.ok scName (fun vs H Q E h => ?_) (fun cdv A outer s H vs Q E hr h => ?_)
  · obtain ⟨z, rfl, _⟩ := h
    rfl
  · obtain ⟨z, rfl, hz, q⟩ := h
    refine ⟨_, pss_cons (ps_if (PW.pt (pw_or (pt_not (pt_val (pe_callB call_isi (by rfl) mi (by decide +kernel) (pa_cons (pv 0) (pa_cons (pe_bltn (v := .ty "str") (by rfl) ms (by decide +kernel) rfl) pa_nil)))))
        (pw_or1 (pt_not (pt_chain op_le op_le pe_int (pe_callB call_len_str (by rfl) ml PySem.boot_len (pa_cons (pv 0) pa_nil)) (pe_glob (v := .int 8) rfl gM ⟨_, rfl⟩)))))) (pss_one (ps_ret pe_bl)) pss_nil)
      (pss_one (ps_ret (pe_callB (cr_all rfl) (by rfl) ma (by decide +kernel) (pa_cons (pe_lc (own := [("letter", 1)]) (g := gName 1) (tt := tYes) rfl scName.nd (pi_str (pv 0))
        (blkOk_by (N := ["thing", "letter"]) (sc := defScope sName) (by decide +kernel)) (fun _ _ _ _ _ => pg_name (i := 1) scName.nd rfl (Or.inl rfl)) (fun _ _ _ _ _ => pts_nil)
        (fun _ _ _ _ _ => pe_cmpR op_in_sign (pv 1) (pe_glob (v := .str abc) rfl gL ⟨_, rfl⟩) (by rfl))) pa_nil)))), ?_⟩
    refine ⟨.str z, rfl, .str z, .ty "str", .type "str", .type "str", true, rfl, .ty _, .base (.str z), kit_ty (by decide +kernel), true, rfl, iteF ?_⟩
    have hf := hz.fits (by decide)
    have no : ¬ (1 ≤ z.length ∧ z.length ≤ 8) → nameB z = false := fun h => by
      unfold nameB
      rw [decide_eq_false h]; rfl
    refine ⟨.str z, rfl, z, rfl, hf, 1, _, rfl, rfl, _, rfl, ite2 (fun c1 => ?_) (fun c1 => ?_)⟩
    · refine ⟨_, _, rfl, rfl, _, rfl, ite2 (fun c2 => ?_) (fun c2 => ?_)⟩
      · have c3 : ¬ ((z.length : Int) ≤ 8) := fun e => by rw [decide_eq_true e] at c2; cases c2
        have := q H (Same.refl H)
        rw [no (by omega)] at this
        exact this
      · have c1' := of_decide_eq_true c1
        have c3 : (z.length : Int) ≤ 8 := by
          by_cases e : (z.length : Int) ≤ 8
          · exact e
          · rw [decide_eq_false e] at c2; exact absurd rfl c2
        refine ⟨.str z, rfl, z, rfl, fun D nD => ?_⟩
        refine lc_it walk_str (fun i H1 => ∃ bs : List Bool, H1 D = some (.lst (bs.map V.bl)) ∧ bs = (z.cps.toList.take i).map (fun c => decide (c ∈ abc.cps.toList)) ∧ Same H H1) ?_ (fun _ _ _ _ => trivial) ?_ ?_
        · exact ⟨[], upd_same, rfl, same_new nD⟩
        · rintro i x H1 H2 hi ⟨bs, hD, hb, sm⟩ ⟨rfl, c, hc, rfl⟩
          have hc' : z.cps.toList[i]? = some c := by rw [Array.getElem?_toList]; exact hc
          refine ⟨rfl, .str ⟨#[c]⟩, rfl, c, abc, rfl, rfl, _, hD, ?_, bs ++ [decide (c ∈ abc.cps.toList)], ?_, ?_, ?_⟩
          · rw [List.length_map, hb, List.length_map, List.length_take]
            exact small1000 (by have := hz.1; rw [len_list] at this; omega)
          · rw [upd_same, List.map_append]; rfl
          · rw [hb, List.take_add_one, hc', List.map_append]; rfl
          · exact fun b o e => by
              have nb : b ≠ D := ne_of_none e nD
              rw [upd_ne nb]; exact sm b o e
        · rintro H1 ⟨bs, hD, hb, sm⟩
          refine ⟨D, bs, rfl, SqL.of hD, ?_⟩
          have e : bs.all id = nameB z := by
            unfold nameB
            rw [decide_eq_true (show 1 ≤ z.length ∧ z.length ≤ 8 by omega), hb, List.take_of_length_le (by rw [Array.length_toList]; exact Nat.le_refl _), List.all_map]
            rfl
          rw [e]
          exact q H1 sm
    · refine ⟨false, rfl, iteT ?_⟩
      have c3 : ¬ ((1 : Int) ≤ (z.length : Int)) := fun e => c1 (decide_eq_true e)
      have := q H (Same.refl H)
      rw [no (by omega)] at this
      exact this
theorem scMeas : FnScope ["thing"] ["thing"] (defScope sMeas) := ⟨rfl, rfl, rfl, by decide +kernel, rfl, by decide +kernel, by decide +kernel⟩
def spMeas : Sp := fun vs H Q _ => ∃ i : Int, vs = [.int i] ∧ 1 ≤ i ∧ i ≤ 60 ∧ Q (.bl true) H
theorem ok_meas {f fW : Addr} {fd fdW : FuncData} {tm : Tok} (F : Fun K "is_measure" "is_measure" sMeas f fd) (FW : Fun K "is_whole" "is_whole" sWhole fW fdW) (GW : FnOk P w K mg base CX0 1 fW fdW ["thing", "least"] spWhole) (bW : Binds K fdW ["thing", "least"] []) (gW : mg "is_whole" = some (.ref fW))
    (gM : mg "MOST_BRIM" = some (.int 60 tm)) : FnOk P w K mg base CX0 2 f fd ["thing"] spMeas := by
  refine F.ok scMeas (fun vs H Q E h => ?_) (fun cdv A outer s H vs Q E hr h => ?_)
  · obtain ⟨i, rfl, _⟩ := h
    rfl
  · obtain ⟨i, rfl, l1, l2, q⟩ := h
    refine ⟨_, pss_one (ps_ret (pe_and (pe_call GW hr (by rfl) gW FW.kp bW .nil pass0 (pa_cons (pv 0) (pa_cons pe_int pa_nil))) (pe_one (pe_cmpR op_le (pv 0) (pe_glob (v := .int 60) rfl gM ⟨_, rfl⟩) (nomark _))))), ?_⟩
    refine ⟨.int i, rfl, i, 1, rfl, ?_⟩
    rw [decide_eq_true (show i ≥ 1 from l1)]
    refine ⟨true, rfl, iteT ⟨.int i, rfl, i, 60, rfl, rfl, ?_⟩⟩
    show Q (.bl (decide (i ≤ 60))) H
    rw [decide_eq_true l2]
    exact q
end
end Nl
end
section
set_option maxHeartbeats 0
namespace Nl
open PySem PySem.Spec PyProof.Rows L2
/-! ### what the top leaves: facts by names -/
/-- the keyword-only default x of the def at f, if it is an object -/
def kwAt (f : Str × Option Str) (x : Str) (K : PySem.W.Frag) : Addr := match K.lookup (He.fAd K f) with
  | some ⟨_, _, .func fd, _⟩ => (match fd.kwdefaults with
    | .ref D => (match PySem.W.nsIn K D x with
      | some (some (.ref a)) => a
      | _ => 0)
    | _ => 0)
  | _ => 0
/-- the empty tuple stands there -/
def tup0 (K : PySem.W.Frag) (a : Addr) : Bool := match K.lookup a with
  | some ⟨.type c, _, .seq its _, _⟩ => decide (c = "tuple") && its.toList.isEmpty
  | _ => false
/-- one step: what the objects name -/
def nextA (g : Addr → Option Obj) (as : List Addr) : List Addr := as.flatMap fun a => match g a with
  | some o => He.refsD o
  | none => []
/-- the names that are looked up -/
def lookN : List Str := (["is_whole", "is_name", "is_measure", "is_pond_of", "is_pair_of", "goes_out", "comes_in", "steps_out", "pipes_out", "pipes_in", "check_ponds", "check_pipes", "check_sides", "check_ways", "_law_pot", "_law_draw", "_law_name", "_law_closed", "_law_room", "_law_net", "way_out", "_law_ways", "_law_are_told", "_law_refused", "_law_other", "_law_layered", "_law_right", "law", "Net", "NoPond"] : List Str)
def next3 (g : Addr → Option Obj) (a1 a2 a3 : List Addr) : List Addr := mainGlobals :: cStatics :: sysModules :: (a1 ++ (a2 ++ (a3 ++ nextA g a3)))
def next2 (g : Addr → Option Obj) (a1 a2 : List Addr) : List Addr := next3 g a1 a2 (nextA g a2)
def next1 (g : Addr → Option Obj) (a1 : List Addr) : List Addr := next2 g a1 (nextA g a1)
/-- the objects that are looked at: the module's names, what they reach in three steps -/
def asN (g : Addr → Option Obj) : List Addr := next1 g (lookN.map (He.ga (He.frG g [mainGlobals])))
def d_whole : He.DefD := ⟨("is_whole", none), "is_whole", "is_whole", defArgs sWhole, defBody sWhole, defScope sWhole, [], []⟩
def d_name : He.DefD := ⟨("is_name", none), "is_name", "is_name", defArgs sName, defBody sName, defScope sName, [], []⟩
def d_meas : He.DefD := ⟨("is_measure", none), "is_measure", "is_measure", defArgs sMeas, defBody sMeas, defScope sMeas, [], []⟩
def d_pondOf : He.DefD := ⟨("is_pond_of", none), "is_pond_of", "is_pond_of", defArgs sPondOf, defBody sPondOf, defScope sPondOf, [], []⟩
def d_pairOf : He.DefD := ⟨("is_pair_of", none), "is_pair_of", "is_pair_of", defArgs sPairOf, defBody sPairOf, defScope sPairOf, [], []⟩
def d_goes : He.DefD := ⟨("goes_out", none), "goes_out", "goes_out", defArgs sGoes, defBody sGoes, defScope sGoes, [], []⟩
def d_comes : He.DefD := ⟨("comes_in", none), "comes_in", "comes_in", defArgs sComes, defBody sComes, defScope sComes, [], []⟩
def d_steps : He.DefD := ⟨("steps_out", none), "steps_out", "steps_out", defArgs sSteps, defBody sSteps, defScope sSteps, [], []⟩
def d_pOut : He.DefD := ⟨("pipes_out", none), "pipes_out", "pipes_out", defArgs sPipesOut, defBody sPipesOut, defScope sPipesOut, [], []⟩
def d_pIn : He.DefD := ⟨("pipes_in", none), "pipes_in", "pipes_in", defArgs sPipesIn, defBody sPipesIn, defScope sPipesIn, [], []⟩
def d_ckPonds : He.DefD := ⟨("check_ponds", none), "check_ponds", "check_ponds", defArgs sCkPonds, defBody sCkPonds, defScope sCkPonds, [], []⟩
def d_ckPipes : He.DefD := ⟨("check_pipes", none), "check_pipes", "check_pipes", defArgs sCkPipes, defBody sCkPipes, defScope sCkPipes, [], []⟩
def d_ckSides : He.DefD := ⟨("check_sides", none), "check_sides", "check_sides", defArgs sCkSides, defBody sCkSides, defScope sCkSides, [], []⟩
def d_ckWays : He.DefD := ⟨("check_ways", none), "check_ways", "check_ways", defArgs sCkWays, defBody sCkWays, defScope sCkWays, [], []⟩
def d_pot : He.DefD := ⟨("_law_pot", none), "_law_pot", "_law_pot", defArgs sPot, defBody sPot, defScope sPot, [], []⟩
def d_draw : He.DefD := ⟨("_law_draw", none), "_law_draw", "_law_draw", defArgs sDraw, defBody sDraw, defScope sDraw, [], []⟩
def d_lname : He.DefD := ⟨("_law_name", none), "_law_name", "_law_name", defArgs sLName, defBody sLName, defScope sLName, [], []⟩
def d_closed : He.DefD := ⟨("_law_closed", none), "_law_closed", "_law_closed", defArgs sClosed, defBody sClosed, defScope sClosed, [], []⟩
def d_room : He.DefD := ⟨("_law_room", none), "_law_room", "_law_room", defArgs sRoom, defBody sRoom, defScope sRoom, [], []⟩
def d_lnet : He.DefD := ⟨("_law_net", none), "_law_net", "_law_net", defArgs sNet, defBody sNet, defScope sNet, [], []⟩
def d_wayOut : He.DefD := ⟨("way_out", none), "way_out", "way_out", defArgs s_way_out, defBody s_way_out, defScope s_way_out, [], []⟩
def d_lways : He.DefD := ⟨("_law_ways", none), "_law_ways", "_law_ways", defArgs s_law_ways, defBody s_law_ways, defScope s_law_ways, [], []⟩
def d_areTold : He.DefD := ⟨("_law_are_told", none), "_law_are_told", "_law_are_told", defArgs s_law_are_told, defBody s_law_are_told, defScope s_law_are_told, [], []⟩
def d_lrefused : He.DefD := ⟨("_law_refused", none), "_law_refused", "_law_refused", defArgs sRefused, defBody sRefused, defScope sRefused, [], []⟩
def d_lother : He.DefD := ⟨("_law_other", none), "_law_other", "_law_other", defArgs s_law_other, defBody s_law_other, defScope s_law_other, [], []⟩
def d_layered : He.DefD := ⟨("_law_layered", none), "_law_layered", "_law_layered", defArgs s_law_layered, defBody s_law_layered, defScope s_law_layered, [], []⟩
def d_lright : He.DefD := ⟨("_law_right", none), "_law_right", "_law_right", defArgs sRight, defBody sRight, defScope sRight, [], []⟩
def d_law : He.DefD := ⟨("law", none), "law", "law", defArgs sLaw, defBody sLaw, defScope sLaw, [], []⟩
def d_has : He.DefD := ⟨("Net", some "has_pond"), "has_pond", "Net.has_pond", defArgs mNet_has_pond, defBody mNet_has_pond, defScope mNet_has_pond, [], []⟩
def d_chk : He.DefD := ⟨("Net", some "check_pond"), "check_pond", "Net.check_pond", defArgs mNet_check_pond, defBody mNet_check_pond, defScope mNet_check_pond, [], []⟩
def d_ponds : He.DefD := ⟨("Net", some "ponds"), "ponds", "Net.ponds", defArgs mNet_ponds, defBody mNet_ponds, defScope mNet_ponds, [], []⟩
def d_brim : He.DefD := ⟨("Net", some "brim"), "brim", "Net.brim", defArgs mNet_brim, defBody mNet_brim, defScope mNet_brim, [], []⟩
def d_brims : He.DefD := ⟨("Net", some "brims"), "brims", "Net.brims", defArgs mNet_brims, defBody mNet_brims, defScope mNet_brims, [], []⟩
def d_pipes : He.DefD := ⟨("Net", some "pipes"), "pipes", "Net.pipes", defArgs mNet_pipes, defBody mNet_pipes, defScope mNet_pipes, [], []⟩
def d_outs : He.DefD := ⟨("Net", some "outs"), "outs", "Net.outs", defArgs mNet_outs, defBody mNet_outs, defScope mNet_outs, [], []⟩
def d_nI : He.DefD := ⟨("Net", some "__init__"), "__init__", "Net.__init__", defArgs mNet_init, defBody mNet_init, defScope mNet_init, [.non], []⟩
def fnAll : List He.DefD := [d_whole, d_name, d_meas, d_pondOf, d_pairOf, d_goes, d_comes, d_steps, d_pOut, d_pIn, d_ckPonds, d_ckPipes, d_ckSides, d_ckWays, d_pot, d_draw, d_lname, d_closed, d_room, d_lnet, d_wayOut, d_lways, d_areTold, d_lrefused, d_lother, d_layered, d_lright, d_law, d_has, d_chk, d_ponds, d_brim, d_brims, d_pipes, d_outs, d_nI]
def faAll : List He.Fa := [.glo "is_whole", .glo "is_name", .glo "is_measure", .glo "is_pond_of", .glo "is_pair_of", .glo "goes_out", .glo "comes_in", .glo "steps_out", .glo "pipes_out", .glo "pipes_in", .glo "check_ponds", .glo "check_pipes", .glo "check_sides", .glo "check_ways", .glo "_law_pot", .glo "_law_draw", .glo "_law_name", .glo "_law_closed", .glo "_law_room", .glo "_law_net", .glo "way_out", .glo "_law_ways", .glo "_law_are_told", .glo "_law_refused", .glo "_law_other", .glo "_law_layered", .glo "_law_right", .glo "law", .meth "Net" "has_pond", .meth "Net" "check_pond", .meth "Net" "ponds", .meth "Net" "brim", .meth "Net" "brims", .meth "Net" "pipes", .meth "Net" "outs", .mkr "Net", .cls "Net", .noat "Net" "brim_by_pond", .noat "Net" "width_by_pair", .noat "Net" "outs_by_pond", .noat "Net" "ins_by_pond", .glo "Net", .glo "NoPond", .free "isinstance", .free "int", .free "bool", .free "str", .free "len", .free "all", .free "tuple", .free "sum", .free "sorted", .free "dict", .free "list", .free "divmod", .free "max", .free "abs", .free "range", .free "min", .free "reversed", .free "repr", .free "super", .int "MOST_LETTERS" 8, .str "LETTERS" abc, .int "MOST_BRIM" 60, .int "MOST_PONDS" 12]
def exAll (K : PySem.W.Frag) : Bool := Rl.xiB K (He.ga K "NoPond") (He.ma K (He.ga K "NoPond") "__init__") PySem.Challenge.pw_backwater_k16_ways_out.main.file "NoPond.__init__" && ((List.lookup sysModules K).isSome && (decide (PySem.W.findIn K (.ref (He.ga K "NoPond")) "name" = some none) && (Rl.xcB K (He.ga K "NoPond") && (decide (PySem.W.exmOne K (.ref (He.ga K "NoPond")) (.ref (He.ga K "NoPond")) = some true) && (true)))))
def looseAll : List Str := (["_wall", "WaterError", "NetError", "NoNet", "BadName", "TooMany", "BadBrim", "BadPipe", "TooWide", "Closed", "NoPond", "is_whole", "MOST_PONDS", "MOST_BRIM", "MOST_LETTERS", "LETTERS", "is_name", "is_measure", "is_pond_of", "is_pair_of", "goes_out", "comes_in", "pipes_out", "pipes_in", "steps_out", "check_ponds", "check_pipes", "check_sides", "check_ways", "Net"] : List Str) ++ (["way_out", "_law_pot", "_law_draw", "_law_name", "_law_closed", "_law_room", "_law_net", "_law_ways", "_law_are_told", "_law_refused", "_law_other", "_law_layered", "_law_right"] : List Str)
def xiAll (K : PySem.W.Frag) : List Rl.XW := [Rl.xiW K "NoPond"]
def xiVals : List Rl.XW := [Rl.xiV xNoPond "NoPond.__init__"]
abbrev AlN : Type := He.AlD × Bool × List Rl.XW
def obsK (K : PySem.W.Frag) : AlN := (He.obsD faAll fnAll K, exAll K, xiAll K)
def obsN (g : Addr → Option Obj) : AlN := obsK (He.frG g (asN g))
def hookN : PySem.W.Hook where
  α := AlN
  obs := fun s => obsN s.heap.get?
  val := fun _ => (He.valD fnAll, true, xiVals)
  says := fun _ h => ∃ K : PySem.W.Frag, K.In h ∧ He.SaysD faAll fnAll K ∧ exAll K = true ∧ xiAll K = xiVals
  of := fun _ _ e => ⟨_, He.frG_in, congrArg (fun z : AlN => z.1) e, congrArg (fun z : AlN => z.2.1) e, congrArg (fun z : AlN => z.2.2) e⟩
  keeps := fun _ _ _ ⟨K, hK, c⟩ k => ⟨K, PySem.W.Frag.In.keeps hK k, c⟩
def obN (s : PySem.W.SharedT) : AlN := obsN (HandSHeadRun.getT s)
theorem obN_eq (s : PySem.W.SharedT) : obN s = hookN.obs s.abs := by
  have e : HandSHeadRun.getT s = s.abs.heap.get? := funext (HandSHeadRun.getT_eq s)
  show obsN (HandSHeadRun.getT s) = obsN s.abs.heap.get?
  rw [e]
abbrev RowR : PySem.W.OpenRow := PySem.W.OpenLaw.row PySem.Challenge.rw_backwater_k16_ways_out
theorem run (w : World) : HandSHeadRun.RunEq RowR (PySem.W.view RowR.prog [48]) hookN obN 8000 looseAll w := by
  intro os
  kernel_rfl
end Nl
end
section
namespace Nl
open PySem PySem.Spec PyProof.Rows L2 Nt
theorem Rd.same {H H' : Hp} {a : Addr} {u : HO} (h : Rd H a u) (s : Same H H') : Rd H' a u := by
  rcases h with h | ⟨o, h⟩
  · exact .inl (s _ _ h)
  · exact .inr ⟨o, s _ _ h⟩
theorem getB_isSome (B : Br) (x : Str) : ((getB B x).map V.int).isSome = decide (x ∈ nms B) := by
  by_cases h : x ∈ nms B
  · obtain ⟨b, e⟩ := getB_some h
    rw [e, decide_eq_true h]; rfl
  · rw [getB_none h, decide_eq_false h]; rfl
section
variable {P : Program} {w : World} {K : PySem.W.Frag} {mg : Str → Option Value} {base : Heap}
theorem scPondOf : FnScope ["brims", "thing"] ["brims", "thing"] (defScope sPondOf) := ⟨rfl, rfl, rfl, by decide +kernel, rfl, by decide +kernel, by decide +kernel⟩
def spPondOf : Sp := fun vs H Q _ => ∃ (a : Addr) (B : Br) (z : Str), vs = [.ref a, .str z] ∧ Rd H a (.dK (bk B)) ∧ Sm 25 z ∧ ∀ H', Same H H' → Q (.bl (nameB z && decide (z ∈ nms B))) H'
theorem ok_pondOf {f fN : Addr} {fd fdN : FuncData} (F : Fun K "is_pond_of" "is_pond_of" sPondOf f fd) (FN : Fun K "is_name" "is_name" sName fN fdN) (GN : FnOk P w K mg base CX0 1 fN fdN ["thing"] spName) (bN : Binds K fdN ["thing"] []) (gN : mg "is_name" = some (.ref fN)) :
    FnOk P w K mg base CX0 2 f fd ["brims", "thing"] spPondOf := by
  refine F.ok scPondOf (fun vs H Q E h => ?_) (fun cdv A outer s H vs Q E hr h => ?_)
  · obtain ⟨a, B, z, rfl, _⟩ := h
    rfl
  · obtain ⟨a, B, z, rfl, hA, hz, q⟩ := h
    refine ⟨_, pss_one (ps_ret (pe_and (pe_call GN hr (by rfl) gN FN.kp bN .nil pass0 (pa_cons (pv 1) pa_nil)) (pe_one (pe_cmp (pc_din (hu_of hr) (pv 1) (pv 0)) rfl)))), ?_⟩
    refine ⟨.str z, rfl, z, rfl, hz, fun H1 s1 => ⟨nameB z, rfl, ite2 (fun e => ?_) (fun e => ?_)⟩⟩
    · refine ⟨.str z, rfl, .ref a, rfl, a, _, rfl, .inl ⟨_, Sum.inr z, Rd.same hA s1, rfl, rfl⟩, ?_⟩
      rw [valV_bk, getB_isSome]
      have := q H1 s1
      rw [e] at this
      exact this
    · have := q H1 s1
      rw [Bool.not_eq_true] at e
      rw [e] at this
      exact this
theorem scPairOf : FnScope ["brims", "thing"] ["brims", "thing"] (defScope sPairOf) := ⟨rfl, rfl, rfl, by decide +kernel, rfl, by decide +kernel, by decide +kernel⟩
def spPairOf : Sp := fun vs H Q _ => ∃ (a t : Addr) (B : Br) (x y : Str), vs = [.ref a, .ref t] ∧ Rd H a (.dK (bk B)) ∧ H t = some (.tup [.str x, .str y]) ∧ Nm x ∧ Nm y ∧ x ∈ nms B ∧ y ∈ nms B ∧ x ≠ y ∧ ∀ H', Same H H' → Q (.bl true) H'
theorem ok_pairOf {f fN : Addr} {fd fdN : FuncData} (F : Fun K "is_pair_of" "is_pair_of" sPairOf f fd) (FN : Fun K "is_pond_of" "is_pond_of" sPondOf fN fdN) (GN : FnOk P w K mg base CX0 2 fN fdN ["brims", "thing"] spPondOf) (bN : Binds K fdN ["brims", "thing"] []) (gN : mg "is_pond_of" = some (.ref fN))
    (mi : mg "isinstance" = none) (mt : mg "tuple" = none) (ml : mg "len" = none) : FnOk P w K mg base CX0 3 f fd ["brims", "thing"] spPairOf := by
  refine F.ok scPairOf (fun vs H Q E h => ?_) (fun cdv A outer s H vs Q E hr h => ?_)
  · obtain ⟨a, t, B, x, y, rfl, _⟩ := h
    rfl
  · obtain ⟨a, t, B, x, y, rfl, hA, hT, nx, ny, mx, my, ne, q⟩ := h
    refine ⟨_, pss_cons (ps_if (PW.pt (pw_or (pt_not (pt_val (pe_callB call_isi (by rfl) mi (by decide +kernel) (pa_cons (pv 1) (pa_cons (pe_bltn (v := .ty "tuple") (by rfl) mt (by decide +kernel) rfl) pa_nil)))))
        (pw_or1 (pt_cmpR op_ne (pe_callB call_len_seq (by rfl) ml PySem.boot_len (pa_cons (pv 1) pa_nil)) pe_int (nomark _))))) (pss_one (ps_ret pe_bl)) pss_nil)
      (pss_one (ps_ret (pe_and (pe_call GN hr (by rfl) gN FN.kp bN .nil pass0 (pa_cons (pv 0) (pa_cons (pe_ix ix_tup (pv 1) pe_int (fun _ _ => rfl)) pa_nil)))
        (pe_and (pe_call GN hr (by rfl) gN FN.kp bN .nil pass0 (pa_cons (pv 0) (pa_cons (pe_ix ix_tup (pv 1) pe_int (fun _ _ => rfl)) pa_nil)))
          (pe_one (pe_cmpR op_ne (pe_ix ix_tup (pv 1) pe_int (fun _ _ => rfl)) (pe_ix ix_tup (pv 1) pe_int (fun _ _ => rfl)) (nomark _))))))), ?_⟩
    have i0 : atI [V.str x, V.str y] 0 = some (.str x) := atI_nat (j := 0) rfl
    have i1 : atI [V.str x, V.str y] 1 = some (.str y) := atI_nat (j := 1) rfl
    refine ⟨.ref t, rfl, .ref t, .ty "tuple", .type "tuple", .type "tuple", true, rfl, .ty _, .base (.tup hT), kit_ty (by decide +kernel), true, rfl, iteF ?_⟩
    refine ⟨.ref t, rfl, t, _, rfl, .inr (SqT.of hT), rfl, _, rfl, iteNS rfl ?_⟩
    refine ⟨.ref a, rfl, .ref t, rfl, t, _, 0, _, rfl, rfl, SqT.of hT, i0, a, B, x, rfl, hA, nx.sm.mono (by decide), fun H1 s1 => ?_⟩
    rw [show nameB x = true from nx, decide_eq_true mx]
    refine ⟨true, rfl, iteT ?_⟩
    refine ⟨.ref a, rfl, .ref t, rfl, t, _, 1, _, rfl, rfl, SqT.of (s1 _ _ hT), i1, a, B, y, rfl, Rd.same hA s1, ny.sm.mono (by decide), fun H2 s2 => ?_⟩
    rw [show nameB y = true from ny, decide_eq_true my]
    refine ⟨true, rfl, iteT ?_⟩
    refine ⟨.ref t, rfl, t, _, 0, _, rfl, rfl, SqT.of (s2 _ _ (s1 _ _ hT)), i0, .ref t, rfl, t, _, 1, _, rfl, rfl, SqT.of (s2 _ _ (s1 _ _ hT)), i1, rfl, ?_⟩
    rw [decStr, decide_eq_false ne]
    exact q H2 (s1.trans s2)
/-! ### goes_out, comes_in -/
theorem scGoes : FnScope ["pipes", "name", "pair"] ["pipes", "name"] (defScope sGoes) := ⟨rfl, rfl, rfl, by decide +kernel, rfl, by decide +kernel, by decide +kernel⟩
def spGoes : Sp := fun vs H Q _ => ∃ (a : Addr) (Pp : Pi) (z : Str), vs = [.ref a, .str z] ∧ H a = some (.dT (pt Pp)) ∧ (Pp.map Prod.fst).Nodup ∧ Pp.length ≤ 200 ∧ ∀ H', Same H H' → Q (.int (outW Pp z)) H'
def spComes : Sp := fun vs H Q _ => ∃ (a : Addr) (Pp : Pi) (z : Str), vs = [.ref a, .str z] ∧ H a = some (.dT (pt Pp)) ∧ (Pp.map Prod.fst).Nodup ∧ Pp.length ≤ 200 ∧ ∀ H', Same H H' → Q (.int (inW Pp z)) H'
theorem pt_at {Pp : Pi} {i : Nat} {k : List Key} {v : V} (h : (pt Pp)[i]? = some (k, v)) : ∃ p, Pp[i]? = some p ∧ k = Rl.pk p.1 ∧ v = .int p.2 := by
  unfold pt at h
  rw [List.getElem?_map] at h
  cases e : Pp[i]? with
  | none => rw [e] at h; cases h
  | some p =>
    rw [e] at h
    have := Option.some.inj h
    injection this with h1 h2
    exact ⟨p, rfl, h1.symm, h2.symm⟩
theorem ok_goes {f : Addr} {fd : FuncData} {k : Nat} (F : Fun K "goes_out" "goes_out" sGoes f fd) (ms : mg "sum" = none) : FnOk P w K mg base CX0 (k + 1) f fd ["pipes", "name"] spGoes := by
  refine F.ok scGoes (fun vs H Q E h => ?_) (fun cdv A outer s H vs Q E hr h => ?_)
  · obtain ⟨a, Pp, z, rfl, _⟩ := h
    rfl
  · obtain ⟨a, Pp, z, rfl, hA, nd, hl, q⟩ := h
    refine ⟨_, pss_one (ps_ret (pe_callB (cr_sum rfl) (by rfl) ms (by decide +kernel) (pa_cons (pe_lock (pe_lc (own := [("pair", 2)]) (g := gName 2) (tt := tTest (tOp rEq (tOp (rIxT K) (tVar 2) (tC (.int 0))) (tVar 1))) rfl scGoes.nd (pi_keys (pv 0))
      (blkOk_by (N := ["pipes", "name", "pair"]) (sc := defScope sGoes) (by decide +kernel)) (fun _ _ _ _ _ => pg_name (i := 2) scGoes.nd rfl (Or.inl rfl))
      (fun _ _ _ _ _ => pts_one (pt_cmpR op_eq (pe_ix ix_tup (pv 2) pe_int (fun _ _ => rfl)) (pv 1) (nomark _))) (fun _ _ _ _ _ => pe_dget (hu_of hr) (pv 0) (pv 2) (fun _ _ => rfl)))) pa_nil))), ?_⟩
    refine ⟨a, _, hA, trivial, fun od => ?_⟩
    refine ⟨.ref a, rfl, a, od, rfl, .inr ⟨_, upd_same, fun D nD => ?_⟩⟩
    have hD0 : D ≠ a := fun e => by subst e; rw [upd_same] at nD; cases nD
    refine lc_it (n := (pt Pp).length) walk_keysT (fun i H1 => H1 D = some (.lst ((((Pp.take i).filter fun p => decide (p.1.1 = z)).map (·.2)).map V.int)) ∧ Same (upd H a (.frz od (.dT (pt Pp)))) H1) ⟨upd_same, same_new nD⟩ (fun i H1 _ h => h.2 a _ upd_same) ?_ ?_
    · rintro i x H1 H2 hi ⟨hD, sm⟩ ⟨rfl, kk, v, qq, hkv, rfl, hq⟩
      obtain ⟨p, hp, rfl, rfl⟩ := pt_at hkv
      have hm : p ∈ Pp := List.mem_of_getElem? hp
      refine ⟨rfl, .ref qq, rfl, qq, _, 0, .str p.1.1, rfl, rfl, SqT.of hq, atI_nat (j := 0) rfl, .str z, rfl, rfl, _, rfl, ?_⟩
      rw [decStr]
      have ln : ∀ l : Pi, l.length ≤ 200 → (((l.filter fun p => decide (p.1.1 = z)).map (·.2)).map V.int).length < sizeLine := fun l h => by
        rw [List.length_map, List.length_map]
        exact small1000 (Nat.le_trans (List.length_filter_le _ _) (by omega))
      refine ite2 (fun e => ?_) (fun e => ?_)
      · refine ⟨.ref a, rfl, .ref qq, rfl, a, .int p.2, rfl, .inr ⟨_, Rl.pk p.1, qq, .inr ⟨od, sm a _ upd_same⟩, rfl, hq, ?_⟩, _, hD, ln _ (by rw [List.length_take]; omega), ?_, ?_⟩
        · rw [valV_pt, getP_of_mem nd (show (p.1, p.2) ∈ Pp from hm)]; rfl
        · rw [upd_same, List.take_add_one, hp, List.filter_append]
          show _ = some (HO.lst (((_ ++ List.filter _ [p]).map _).map _))
          rw [List.filter_cons, if_pos e]
          simp
        · exact fun b o eb => by
            have nb : b ≠ D := ne_of_none eb nD
            rw [upd_ne nb]; exact sm b o eb
      · refine ⟨?_, sm⟩
        rw [hD, List.take_add_one, hp, List.filter_append]
        show _ = some (HO.lst (((_ ++ List.filter _ [p]).map _).map _))
        rw [List.filter_cons, if_neg e]
        simp
    · rintro H1 ⟨hD, sm⟩
      obtain ⟨l1, l2⟩ := same_lock hA sm
      refine ⟨l1, D, _, rfl, SqL.of (by rw [upd_ne hD0]; exact hD), ?_⟩
      rw [List.take_of_length_le (by unfold pt; rw [List.length_map]; exact Nat.le_refl _)]
      exact q _ l2
end
end Nl
end
section
namespace Nl
open PySem PySem.Spec PyProof.Rows L2 Nt
section
variable {P : Program} {w : World} {K : PySem.W.Frag} {mg : Str → Option Value} {base : Heap}
theorem scComes : FnScope ["pipes", "name", "pair"] ["pipes", "name"] (defScope sComes) := ⟨rfl, rfl, rfl, by decide +kernel, rfl, by decide +kernel, by decide +kernel⟩
theorem ok_comes {f : Addr} {fd : FuncData} {k : Nat} (F : Fun K "comes_in" "comes_in" sComes f fd) (ms : mg "sum" = none) : FnOk P w K mg base CX0 (k + 1) f fd ["pipes", "name"] spComes := by
  refine F.ok scComes (fun vs H Q E h => ?_) (fun cdv A outer s H vs Q E hr h => ?_)
  · obtain ⟨a, Pp, z, rfl, _⟩ := h
    rfl
  · obtain ⟨a, Pp, z, rfl, hA, nd, hl, q⟩ := h
    refine ⟨_, pss_one (ps_ret (pe_callB (cr_sum rfl) (by rfl) ms (by decide +kernel) (pa_cons (pe_lock (pe_lc (own := [("pair", 2)]) (g := gName 2) (tt := tTest (tOp rEq (tOp (rIxT K) (tVar 2) (tC (.int 1))) (tVar 1))) rfl scComes.nd (pi_keys (pv 0))
      (blkOk_by (N := ["pipes", "name", "pair"]) (sc := defScope sComes) (by decide +kernel)) (fun _ _ _ _ _ => pg_name (i := 2) scComes.nd rfl (Or.inl rfl))
      (fun _ _ _ _ _ => pts_one (pt_cmpR op_eq (pe_ix ix_tup (pv 2) pe_int (fun _ _ => rfl)) (pv 1) (nomark _))) (fun _ _ _ _ _ => pe_dget (hu_of hr) (pv 0) (pv 2) (fun _ _ => rfl)))) pa_nil))), ?_⟩
    refine ⟨a, _, hA, trivial, fun od => ?_⟩
    refine ⟨.ref a, rfl, a, od, rfl, .inr ⟨_, upd_same, fun D nD => ?_⟩⟩
    have hD0 : D ≠ a := fun e => by subst e; rw [upd_same] at nD; cases nD
    refine lc_it (n := (pt Pp).length) walk_keysT (fun i H1 => H1 D = some (.lst ((((Pp.take i).filter fun p => decide (p.1.2 = z)).map (·.2)).map V.int)) ∧ Same (upd H a (.frz od (.dT (pt Pp)))) H1) ⟨upd_same, same_new nD⟩ (fun i H1 _ h => h.2 a _ upd_same) ?_ ?_
    · rintro i x H1 H2 hi ⟨hD, sm⟩ ⟨rfl, kk, v, qq, hkv, rfl, hq⟩
      obtain ⟨p, hp, rfl, rfl⟩ := pt_at hkv
      have hm : p ∈ Pp := List.mem_of_getElem? hp
      refine ⟨rfl, .ref qq, rfl, qq, _, 1, .str p.1.2, rfl, rfl, SqT.of hq, atI_nat (j := 1) rfl, .str z, rfl, rfl, _, rfl, ?_⟩
      rw [decStr]
      have ln : ∀ l : Pi, l.length ≤ 200 → (((l.filter fun p => decide (p.1.2 = z)).map (·.2)).map V.int).length < sizeLine := fun l h => by
        rw [List.length_map, List.length_map]
        exact small1000 (Nat.le_trans (List.length_filter_le _ _) (by omega))
      refine ite2 (fun e => ?_) (fun e => ?_)
      · refine ⟨.ref a, rfl, .ref qq, rfl, a, .int p.2, rfl, .inr ⟨_, Rl.pk p.1, qq, .inr ⟨od, sm a _ upd_same⟩, rfl, hq, ?_⟩, _, hD, ln _ (by rw [List.length_take]; omega), ?_, ?_⟩
        · rw [valV_pt, getP_of_mem nd (show (p.1, p.2) ∈ Pp from hm)]; rfl
        · rw [upd_same, List.take_add_one, hp, List.filter_append]
          show _ = some (HO.lst (((_ ++ List.filter _ [p]).map _).map _))
          rw [List.filter_cons, if_pos e]
          simp
        · exact fun b o eb => by
            have nb : b ≠ D := ne_of_none eb nD
            rw [upd_ne nb]; exact sm b o eb
      · refine ⟨?_, sm⟩
        rw [hD, List.take_add_one, hp, List.filter_append]
        show _ = some (HO.lst (((_ ++ List.filter _ [p]).map _).map _))
        rw [List.filter_cons, if_neg e]
        simp
    · rintro H1 ⟨hD, sm⟩
      obtain ⟨l1, l2⟩ := same_lock hA sm
      refine ⟨l1, D, _, rfl, SqL.of (by rw [upd_ne hD0]; exact hD), ?_⟩
      rw [List.take_of_length_le (by unfold pt; rw [List.length_map]; exact Nat.le_refl _)]
      exact q _ l2
end
end Nl
end
section
set_option maxHeartbeats 1000000
namespace Nl
open PySem PySem.Spec PyProof.Rows L2 Nt
theorem inV_strs (y : Str) (l : List Str) : inV (.str y) (l.map V.str) = decide (y ∈ l) := by
  unfold inV
  induction l with
  | nil => rfl
  | cons x r ih =>
    rw [List.map_cons, List.any_cons, ih]
    show ((x == y) || decide (y ∈ r)) = decide (y ∈ x :: r)
    by_cases h : x = y
    · rw [show (x == y) = true from beq_iff_eq.mpr h, decide_eq_true (show y ∈ x :: r by rw [h]; exact List.mem_cons_self)]; rfl
    · rw [show (x == y) = false from beq_eq_false_iff_ne.mpr h]
      by_cases m : y ∈ r
      · rw [decide_eq_true m, decide_eq_true (List.mem_cons_of_mem _ m)]; rfl
      · rw [decide_eq_false m, decide_eq_false (fun z => by
          rcases List.mem_cons.mp z with e | e
          · exact h e.symm
          · exact m e)]; rfl
theorem flat_strs (l : List Str) : (l.map V.str).all flatV = true := by
  rw [List.all_map]; exact List.all_eq_true.mpr fun _ _ => rfl
theorem bk_append (S T : Br) : bk (S ++ T) = bk S ++ bk T := List.map_append
theorem bk_len (S : Br) : (bk S).length = S.length := List.length_map _
theorem bk_at {B : Br} {i : Nat} {k : Key} {v : V} (h : (bk B)[i]? = some (k, v)) : ∃ p, B[i]? = some p ∧ k = Sum.inr p.1 ∧ v = .int p.2 := by
  unfold bk at h
  rw [List.getElem?_map] at h
  cases e : B[i]? with
  | none => rw [e] at h; cases h
  | some p =>
    rw [e] at h
    have := Option.some.inj h
    injection this with h1 h2
    exact ⟨p, rfl, h1.symm, h2.symm⟩
theorem putK_bk {S : Br} {x : Str} {n : Int} (h : x ∉ nms S) : putK (bk S) (Sum.inr x : Key) (.int n) = bk (S ++ [(x, n)]) := by
  rw [putK_new _ (by rw [valV_bk, getB_none h]; rfl), bk_append]; rfl
theorem nms_append (S T : Br) : nms (S ++ T) = nms S ++ nms T := List.map_append
/-- the ponds that soak -/
def soakers (B : Br) (Pp : Pi) (l : Br) : Br := (l.filter fun p => decide (outW Pp p.1 < p.2)).map fun p => (p.1, 0)
theorem soakers_mem {B : Br} {Pp : Pi} {l : Br} {x : Str} : x ∈ nms (soakers B Pp l) ↔ ∃ b, (x, b) ∈ l ∧ outW Pp x < b := by
  unfold nms soakers
  rw [List.map_map, List.mem_map]
  constructor
  · rintro ⟨p, hp, rfl⟩
    obtain ⟨h1, h2⟩ := List.mem_filter.mp hp
    exact ⟨p.2, h1, of_decide_eq_true h2⟩
  · rintro ⟨b, hb, hl⟩
    exact ⟨(x, b), List.mem_filter.mpr ⟨hb, decide_eq_true hl⟩, rfl⟩
theorem soakers_nd {B : Br} {Pp : Pi} {l : Br} (nd : (nms l).Nodup) : (nms (soakers B Pp l)).Nodup := by
  unfold nms soakers
  rw [List.map_map]
  exact List.Nodup.sublist (List.Sublist.map Prod.fst List.filter_sublist) nd
section
variable {P : Program} {w : World} {K : PySem.W.Frag} {mg : Str → Option Value} {base : Heap}
theorem scSteps : FnScope ["brims", "pipes", "steps", "far", "edge", "name", "one", "other"] ["brims", "pipes"] (defScope sSteps) := ⟨rfl, rfl, rfl, by decide +kernel, rfl, by decide +kernel, by decide +kernel⟩
def spSteps : Sp := fun vs H Q _ => ∃ (a b : Addr) (B : Br) (Pp : Pi), vs = [.ref a, .ref b] ∧ H a = some (.dK (bk B)) ∧ H b = some (.dT (pt Pp)) ∧ Wf Nm B Pp ∧
  ∀ (H' : Hp) (p : Addr) (S : Br), Same H H' → H p = none → H' p = some (.dK (bk S)) → (nms S).Nodup → (∀ x, x ∈ nms S ↔ x ∈ nms B ∧ Opn B Pp x) → Q (.ref p) H'
theorem ok_steps {f fG : Addr} {fd fdG : FuncData} (F : Fun K "steps_out" "steps_out" sSteps f fd) (FG : Fun K "goes_out" "goes_out" sGoes fG fdG) (GG : FnOk P w K mg base CX0 1 fG fdG ["pipes", "name"] spGoes) (bG : Binds K fdG ["pipes", "name"] []) (gG : mg "goes_out" = some (.ref fG))
    (ms : mg "sorted" = none) : FnOk P w K mg base CX0 2 f fd ["brims", "pipes"] spSteps := by
  refine F.ok scSteps (fun vs H Q E h => ?_) (fun cdv A outer s H vs Q E hr h => ?_)
  · obtain ⟨a, b, B, Pp, rfl, _⟩ := h
    rfl
  · obtain ⟨a, b, B, Pp, rfl, hA, hB, wf, q⟩ := h
    have hu := hu_of hr
    refine ⟨_, pss_cons (ps_set (i := 2) scSteps.nd rfl (Or.inr rfl) (pe_lock (Rl.pe_dcP (T := .dK []) (own := [("name", 5)]) (g := gName 5) (.inr rfl) hr rfl scSteps.nd (pi_keys (pv 0))
        (blkOk_by (N := ["brims", "pipes", "steps", "far", "edge", "name", "one", "other"]) (sc := defScope sSteps) (by decide +kernel)) (fun _ _ _ _ _ => pg_name (i := 5) scSteps.nd rfl (Or.inl rfl))
        (fun _ _ _ _ _ => pts_one (pt_cmpR op_lt (pe_call GG hr (by rfl) gG FG.kp bG .nil pass0 (pa_cons (pv 1) (pa_cons (pv 5) pa_nil))) (pe_dget hu (pv 0) (pv 5) (fun _ _ => rfl)) (nomark _)))
        (fun _ _ _ _ _ => pv 5) (fun _ _ _ _ _ => pe_int))))
      (pss_cons (ps_set (i := 3) scSteps.nd rfl (Or.inl rfl) pe_int)
      (pss_cons (ps_set (i := 4) scSteps.nd rfl (Or.inr rfl) (pe_callB (call_sortedD rfl) (by rfl) ms (by decide +kernel) (pa_cons (pv 2) pa_nil)))
      (pss_cons (ps_while PassesOwn.never (pt_truth (pv 4) (by intro _; rfl))
        (pss_cons (ps_aug (i := 3) scSteps.nd rfl (.inl rfl) pe_int ip_add)
        (pss_cons (ps_set (i := 4) scSteps.nd rfl (Or.inr rfl) (pe_callB (Rl.call_sortX rfl) (by rfl) ms (by decide +kernel) (pa_cons (pe_lock (Rl.pe_scX (own := [("one", 6), ("other", 7)])
          (g := gTup K 2 (gCons (gName 6) (gCons (gName 7) gNil))) (tt := tAnd (tTest (tOp (rIn K false) (tVar 7) (tVar 4))) (tB (tDNotIn (tVar 6) (tVar 2)))) rfl scSteps.nd (pi_keys (pv 1))
          (blkOk_by (N := ["brims", "pipes", "steps", "far", "edge", "name", "one", "other"]) (sc := defScope sSteps) (by decide +kernel))
          (fun _ _ _ _ _ => pg_tup rfl (pgs_cons (pg_name (i := 6) scSteps.nd rfl (Or.inl rfl)) (pgs_cons (pg_name (i := 7) scSteps.nd rfl (Or.inl rfl)) pgs_nil)))
          (fun _ _ _ _ _ => pts_one (PW.pt (pw_and (pt_cmpR op_in_seq (pv 7) (pv 4) (by rfl)) (pw_and1 (pt_cmp (pc_dnotin hu (pv 6) (pv 2)))))))
          (fun _ _ _ _ _ => pv 6))) pa_nil)))
        (pss_one (ps_for PassesOwn.never rfl (pi_list (pv 4)) (pg_name (i := 5) scSteps.nd rfl (Or.inl rfl)) (pss_one (ps_dput hu (pv 2) (pv 5) (pv 3) rfl)))))))
      (pss_one (ps_ret (pv 2)))))), ?_⟩
    -- steps = {..}
    refine ⟨a, _, hA, trivial, fun od => ?_⟩
    refine ⟨.ref a, rfl, a, od, rfl, .inl ⟨_, upd_same, fun D nD => ?_⟩⟩
    have hDa : D ≠ a := fun e => by subst e; rw [upd_same] at nD; cases nD
    have nDH : H D = none := by rw [upd_ne hDa] at nD; exact nD
    have hba : b ≠ a := fun e => by subst e; rw [hA] at hB; cases hB
    refine Rl.gc_it (n := (bk B).length) (b0 := fun _ => .dK []) walk_keys (fun i H1 => H1 D = some (.dK (bk (soakers B Pp (B.take i)))) ∧ Same (upd H a (.frz od (.dK (bk B)))) H1) ⟨upd_same, same_new nD⟩ (fun i H1 _ h => h.2 a _ upd_same) ?_ ?_
    · rintro i x H1 H1' hi ⟨hD, sm⟩ ⟨rfl, kk, v, hkv, rfl⟩
      obtain ⟨p, hp, rfl, rfl⟩ := bk_at hkv
      have hm : p ∈ B := List.mem_of_getElem? hp
      have hB1 : H1' b = some (.dT (pt Pp)) := sm b _ (by rw [upd_ne hba]; exact hB)
      refine ⟨rfl, .ref b, rfl, .str p.1, rfl, b, Pp, p.1, rfl, hB1, wf.np, wf.lp, fun H2 s2 => ?_⟩
      refine ⟨.ref a, rfl, .str p.1, rfl, a, .int p.2, rfl, .inl ⟨_, Sum.inr p.1, .inr ⟨od, s2 a _ (sm a _ upd_same)⟩, rfl, ?_⟩, _, _, rfl, rfl, _, rfl, ?_⟩
      · rw [valV_bk, getB_of_mem wf.nb hm]; rfl
      · have il : i < B.length := (List.getElem?_eq_some_iff.mp hp).1
        have ndT : (nms (B.take i)).Nodup := List.Nodup.sublist (List.Sublist.map Prod.fst (List.take_sublist i B)) wf.nb
        have fresh : p.1 ∉ nms (B.take i) := by
          intro z
          have h2 : (nms (B.take (i + 1))).Nodup := List.Nodup.sublist (List.Sublist.map Prod.fst (List.take_sublist (i + 1) B)) wf.nb
          rw [List.take_add_one, hp] at h2
          have h3 : (nms (B.take i) ++ [p.1]).Nodup := by
            have := nms_append (B.take i) [p]
            rw [show (some p).toList = [p] from rfl, this] at h2
            exact h2
          rw [List.nodup_append] at h3
          exact h3.2.2 p.1 z p.1 (List.mem_singleton.mpr rfl) rfl
        refine ite2 (fun e => ?_) (fun e => ?_)
        · have e' : outW Pp p.1 < p.2 := of_decide_eq_true e
          have ns : p.1 ∉ nms (soakers B Pp (B.take i)) := fun z => by
            obtain ⟨c, hc, _⟩ := soakers_mem.mp z
            exact fresh (List.mem_map.mpr ⟨_, hc, rfl⟩)
          refine ⟨.str p.1, rfl, _, DPut.k (k := Sum.inr p.1) (s2 D _ hD) ?_, ?_, ?_⟩
          · rw [bk_len]
            refine small1000 (Nat.le_trans (?_ : _ ≤ B.length) (by have := wf.lb; omega))
            unfold soakers
            rw [List.length_map]
            refine Nat.le_trans (List.length_filter_le _ _) ?_
            rw [List.length_take]; omega
          · rw [upd_same, putK_bk ns, List.take_add_one, hp]
            unfold soakers
            rw [List.filter_append, List.map_append]
            show some (HO.dK (bk (_ ++ [(p.1, 0)]))) = some (HO.dK (bk (_ ++ List.map _ (List.filter _ [p]))))
            rw [List.filter_cons, if_pos (decide_eq_true e')]
            rfl
          · exact fun c o ec => by
              have nb : c ≠ D := ne_of_none ec nD
              rw [upd_ne nb]; exact s2 c o (sm c o ec)
        · refine ⟨?_, sm.trans s2⟩
          rw [s2 D _ hD, List.take_add_one, hp]
          unfold soakers
          rw [List.filter_append, List.map_append]
          show _ = some (HO.dK (bk (_ ++ List.map _ (List.filter _ [p]))))
          have e' : ¬ (decide (outW Pp p.1 < p.2) = true) := e
          rw [List.filter_cons, if_neg e']
          simp
    · rintro H1 ⟨hD, sm⟩
      obtain ⟨l1, sH⟩ := same_lock hA sm
      refine ⟨l1, ?_⟩
      rw [bk_len, List.take_length] at hD
      have hD2 : (upd H1 a (.dK (bk B))) D = some (.dK (bk (soakers B Pp B))) := by rw [upd_ne hDa]; exact hD
      obtain ⟨H2, hH2⟩ : ∃ H2, H2 = upd H1 a (.dK (bk B)) := ⟨_, rfl⟩
      rw [← hH2] at hD2 sH ⊢
      -- edge = sorted(steps)
      refine ⟨.ref D, rfl, D, _, nms (soakers B Pp B), rfl, .inl hD2, ?_, ?_, fun ys e0 pm _ ne0 => ?_⟩
      · unfold bk nms
        rw [List.map_map, List.map_map]; rfl
      · have h1 := len_le_of_sub (soakers_nd (B := B) (Pp := Pp) wf.nb) (m := nms B) (fun x hx => by
          obtain ⟨c, hc, _⟩ := soakers_mem.mp hx
          exact List.mem_map.mpr ⟨_, hc, rfl⟩)
        have h2 : (nms B).length = B.length := List.length_map _
        have := wf.lb
        omega
      have e0D : e0 ≠ D := Ne.symm (ne_of_none hD2 ne0)
      have bfs0 : Bfs B Pp (nms (soakers B Pp B)) ys :=
        ⟨soakers_nd wf.nb, fun x hx => by
            obtain ⟨c, hc, hl⟩ := soakers_mem.mp hx
            exact ⟨List.mem_map.mpr ⟨_, hc, rfl⟩, .soak hc hl⟩,
          fun x hx => pm.mem_iff.mp hx, fun x c hc hl => soakers_mem.mpr ⟨c, hc, hl⟩, fun x y w m hy => .inr (pm.mem_iff.mpr hy)⟩
      have lenS : ∀ {S E : Br} {E2 : List Str}, Bfs B Pp (nms S) E2 → S.length ≤ 12 := fun {S E E2} h => by
        have h1 := len_le_of_sub h.nd (m := nms B) (fun x hx => (h.sub x hx).1)
        have h2 : (nms B).length = B.length := List.length_map _
        have h3 : (nms S).length = S.length := List.length_map _
        have := wf.lb
        omega
      refine ⟨fun m σ H3 => ∃ (S : Br) (E2 : List Str) (far : Int) (e : Addr) (y5 y6 y7 : Option V), σ = [some (.ref a), some (.ref b), some (.ref D), some (.int far), some (.ref e), y5, y6, y7] ∧ Same H H3 ∧ H3 D = some (.dK (bk S)) ∧
        H3 e = some (.lst (E2.map V.str)) ∧ Bfs B Pp (nms S) E2 ∧ m = 2 * (12 - S.length) + (if E2 = [] then 0 else 1),
        ⟨_, soakers B Pp B, ys, 0, e0, none, none, none, rfl, sH.trans (same_new ne0), by rw [upd_ne (Ne.symm e0D)]; exact hD2, upd_same, bfs0, rfl⟩, ?_⟩
      rintro m σ H3 ⟨S, E2, far, e, y5, y6, y7, rfl, sm3, hD3, he3, bfs, rfl⟩
      have hlS : S.length ≤ 12 := lenS (E := []) bfs
      refine ⟨.ref e, rfl, !(E2.map V.str).isEmpty, .inl ⟨_, SqL.of he3, rfl⟩, ite2 (fun c => ?_) (fun c => ?_)⟩
      · have ne : E2 ≠ [] := fun z => by subst z; exact absurd c (by decide)
        refine ⟨fun σ' H' => ∃ m', m' < 2 * (12 - S.length) + (if E2 = [] then 0 else 1) ∧ ∃ (S : Br) (E2 : List Str) (far : Int) (e : Addr) (y5 y6 y7 : Option V), σ' = [some (.ref a), some (.ref b), some (.ref D), some (.int far), some (.ref e), y5, y6, y7] ∧ Same H H' ∧ H' D = some (.dK (bk S)) ∧
          H' e = some (.lst (E2.map V.str)) ∧ Bfs B Pp (nms S) E2 ∧ m' = 2 * (12 - S.length) + (if E2 = [] then 0 else 1), fun σ' H' h => h, ?_⟩
        -- far += 1
        refine ⟨.int far, rfl, far, 1, rfl, rfl, ?_⟩
        -- edge = sorted({..})
        have hB3 : H3 b = some (.dT (pt Pp)) := sm3 b _ hB
        refine ⟨b, _, hB3, trivial, fun od2 => ?_⟩
        refine ⟨.ref b, rfl, b, od2, rfl, .inr ⟨_, upd_same, fun D2 nD2 => ?_⟩⟩
        have hDb : D ≠ b := fun z => by subst z; rw [hD3] at hB3; cases hB3
        have heb : e ≠ b := fun z => by subst z; rw [he3] at hB3; cases hB3
        have hD2b : D2 ≠ b := fun z => by subst z; rw [upd_same] at nD2; cases nD2
        refine Rl.gc_it (n := (pt Pp).length) (b0 := fun D => Rl.SetX P w D []) walk_keysT (fun i H4 => ∃ l : List Str, H4 D2 = some (Rl.SetX P w D2 l) ∧ l.Nodup ∧
          (∀ x, x ∈ l ↔ (∃ y w, ((x, y), w) ∈ Pp.take i ∧ y ∈ E2) ∧ x ∉ nms S) ∧ Same (upd H3 b (.frz od2 (.dT (pt Pp)))) H4) ⟨[], upd_same, List.nodup_nil, fun x => ⟨fun h => (List.not_mem_nil h).elim, fun ⟨⟨y, w, h, _⟩, _⟩ => (List.not_mem_nil h).elim⟩, same_new nD2⟩
          (fun i H4 _ ⟨_, _, _, _, h⟩ => h b _ upd_same) ?_ ?_
        · rintro i x H4 H4' hi ⟨l, hl, ndl, ml, sm4⟩ ⟨rfl, kk, v, qq, hkv, rfl, hq⟩
          obtain ⟨p, hp, rfl, rfl⟩ := pt_at hkv
          have hm : p ∈ Pp := List.mem_of_getElem? hp
          have he4 : H4' e = some (.lst (E2.map V.str)) := sm4 e _ (by rw [upd_ne heb]; exact he3)
          have hD4 : H4' D = some (.dK (bk S)) := sm4 D _ (by rw [upd_ne hDb]; exact hD3)
          have lN : l.length ≤ 12 := by
            have h1 := len_le_of_sub ndl (m := nms B) (fun z hz => by
              obtain ⟨⟨y, w, h, _⟩, _⟩ := (ml z).mp hz
              exact (wf.rp _ (List.mem_of_mem_take h)).1)
            have h2 : (nms B).length = B.length := List.length_map _
            have := wf.lb
            omega
          have tk : Pp.take (i + 1) = Pp.take i ++ [p] := by rw [List.take_add_one, hp]; rfl
          refine ⟨qq, [.str p.1.1, .str p.1.2], rfl, SqT.of hq, rfl, .str p.1.1, [.str p.1.2], rfl, .str p.1.2, [], rfl, rfl, rfl, ?_⟩
          refine ⟨.str p.1.2, rfl, .ref e, rfl, e, E2.map V.str, rfl, .inl (SqL.of he4), rfl, flat_strs _, inV (.str p.1.2) (E2.map V.str), rfl, ?_⟩
          rw [inV_strs]
          have skip : ¬ (p.1.2 ∈ E2 ∧ p.1.1 ∉ nms S) → ∀ x, x ∈ l ↔ (∃ y w, ((x, y), w) ∈ Pp.take (i + 1) ∧ y ∈ E2) ∧ x ∉ nms S := by
            intro no x
            rw [ml x, tk]
            refine ⟨fun ⟨⟨y, w, h, hy⟩, n⟩ => ⟨⟨y, w, List.mem_append_left _ h, hy⟩, n⟩, fun ⟨⟨y, w, h, hy⟩, n⟩ => ?_⟩
            rcases List.mem_append.mp h with h | h
            · exact ⟨⟨y, w, h, hy⟩, n⟩
            · have h' : ((x, y), w) = p := by simpa using h
              exact absurd (show p.1.2 ∈ E2 ∧ p.1.1 ∉ nms S by rw [← h']; exact ⟨hy, n⟩) no
          refine ite2 (fun c1 => ?_) (fun c1 => ?_)
          · have c1' := of_decide_eq_true c1
            refine ⟨.str p.1.1, rfl, .ref D, rfl, D, _, rfl, .inl ⟨_, Sum.inr p.1.1, .inl hD4, rfl, rfl⟩, _, rfl, ?_⟩
            rw [valV_bk, getB_isSome]
            refine ite2 (fun c2 => ?_) (fun c2 => ?_)
            · have c2' : p.1.1 ∉ nms S := fun z => by rw [decide_eq_true z] at c2; cases c2
              refine ⟨.str p.1.1, rfl, p.1.1, l, rfl, hl, Nat.lt_of_le_of_lt (Nat.succ_le_succ lN) (by decide), _, upd_same, ?_, fun x => ?_, ?_⟩
              · split
                · exact ndl
                · exact List.nodup_cons.mpr ⟨by assumption, ndl⟩
              · have mem : x ∈ (if p.1.1 ∈ l then l else p.1.1 :: l) ↔ x = p.1.1 ∨ x ∈ l := by
                  split
                  · rename_i h
                    exact ⟨.inr, fun z => z.elim (fun e => e ▸ h) id⟩
                  · exact List.mem_cons
                rw [mem, ml x, tk]
                constructor
                · rintro (rfl | ⟨⟨y, w, h, hy⟩, n⟩)
                  · exact ⟨⟨p.1.2, p.2, List.mem_append_right _ (List.mem_singleton.mpr rfl), c1'⟩, c2'⟩
                  · exact ⟨⟨y, w, List.mem_append_left _ h, hy⟩, n⟩
                · rintro ⟨⟨y, w, h, hy⟩, n⟩
                  rcases List.mem_append.mp h with h | h
                  · exact .inr ⟨⟨y, w, h, hy⟩, n⟩
                  · have h' : ((x, y), w) = p := by simpa using h
                    exact .inl (by rw [← h'])
              · exact fun c o ec => by
                  have nb : c ≠ D2 := ne_of_none ec nD2
                  rw [upd_ne nb]; exact sm4 c o ec
            · refine ⟨l, hl, ndl, skip fun ⟨_, z⟩ => c2 (by rw [decide_eq_false z]; rfl), sm4⟩
          · exact iteF ⟨l, hl, ndl, skip fun ⟨z, _⟩ => c1 (decide_eq_true z), sm4⟩
        · rintro H4 ⟨l, hl, ndl, ml, sm4⟩
          obtain ⟨l1, s34⟩ := same_lock hB3 sm4
          refine ⟨l1, ?_⟩
          rw [show (pt Pp).length = Pp.length from List.length_map _, List.take_length] at ml
          have hl2 : (upd H4 b (.dT (pt Pp))) D2 = some (Rl.SetX P w D2 l) := by rw [upd_ne hD2b]; exact hl
          obtain ⟨H5, hH5⟩ : ∃ H5, H5 = upd H4 b (.dT (pt Pp)) := ⟨_, rfl⟩
          rw [← hH5] at hl2 s34 ⊢
          have lN : l.length ≤ 12 := by
            have h1 := len_le_of_sub ndl (m := nms B) (fun z hz => by
              obtain ⟨⟨y, w, h, _⟩, _⟩ := (ml z).mp hz
              exact (wf.rp _ h).1)
            have h2 : (nms B).length = B.length := List.length_map _
            have := wf.lb
            omega
          refine ⟨D2, l, rfl, hl2, by omega, fun ys2 e2 pm2 _ ne2 => ?_⟩
          have ndy : ys2.Nodup := pm2.nodup_iff.mpr ndl
          have hD5 : H5 D = some (.dK (bk S)) := s34 D _ hD3
          have e2D : e2 ≠ D := Ne.symm (ne_of_none hD5 ne2)
          have nb := bfs.next wf ndy (fun x => by rw [pm2.mem_iff]; exact ml x)
          have nD3 : ∀ x ∈ ys2, x ∉ nms S := fun x hx => ((ml x).mp (pm2.mem_iff.mp hx)).2
          -- for name in edge: steps[name] = far
          refine ⟨.ref e2, rfl, e2, rfl, ⟨_, SqL.of upd_same⟩, ?_⟩
          refine for_it (walk_list (K := K) (a := e2) (xs := ys2.map V.str)) (fun i σ H6 => ∃ y5 : Option V, σ = [some (.ref a), some (.ref b), some (.ref D), some (.int (far + 1)), some (.ref e2), y5, y6, y7] ∧ Same H H6 ∧
            H6 D = some (.dK (bk (S ++ (ys2.take i).map fun x => (x, far + 1)))) ∧ H6 e2 = some (.lst (ys2.map V.str))) ⟨y5, rfl, sm3.trans (s34.trans (same_new ne2)), ?_, upd_same⟩ (fun i σ H6 _ ⟨_, _, _, _, h⟩ => SqL.of h) ?_ ?_
          · rw [upd_ne (Ne.symm e2D)]
            show _ = some (HO.dK (bk (S ++ [])))
            rw [List.append_nil]; exact hD5
          · rintro i x σ H6 H6' hi ⟨y5', rfl, sm6, hD6, he6⟩ ⟨rfl, hx⟩
            rw [List.getElem?_map] at hx
            cases hy : ys2[i]? with
            | none => rw [hy] at hx; cases hx
            | some z =>
              rw [hy] at hx
              have hx' : V.str z = x := Option.some.inj hx
              subst hx'
              have fr : z ∉ nms (S ++ (ys2.take i).map fun x => (x, far + 1)) := by
                rw [nms_append]
                intro m
                rcases List.mem_append.mp m with m | m
                · exact nD3 z (List.mem_of_getElem? hy) m
                · unfold nms at m
                  rw [List.map_map] at m
                  have m' : z ∈ ys2.take i := by
                    obtain ⟨u, hu, eu⟩ := List.mem_map.mp m
                    have eu' : u = z := eu
                    rw [← eu']; exact hu
                  have h2 : (ys2.take (i + 1)).Nodup := List.Nodup.sublist (List.take_sublist _ _) ndy
                  rw [List.take_add_one, hy, List.nodup_append] at h2
                  exact h2.2.2 z m' z (List.mem_singleton.mpr rfl) rfl
              refine ⟨.int (far + 1), rfl, .ref D, rfl, .str z, rfl, D, _, rfl, DPut.k (k := Sum.inr z) hD6 ?_, ?_⟩
              · rw [bk_len, List.length_append, List.length_map, List.length_take]
                have := pm2.length_eq
                exact small1000 (by omega)
              · refine ⟨_, rfl, fun c o ec => ?_, ?_, ?_⟩
                · have nc : c ≠ D := ne_of_none ec nDH
                  rw [upd_ne nc]; exact sm6 c o ec
                · rw [upd_same, putK_bk fr, List.take_add_one, hy, List.map_append, List.append_assoc]; rfl
                · rw [upd_ne e2D]; exact he6
          · rintro σ H6 ⟨y5', rfl, sm6, hD6, he6⟩
            rw [List.length_map, List.take_length] at hD6
            have nbS : Bfs B Pp (nms (S ++ ys2.map fun x => (x, far + 1))) ys2 := by
              have e1 : nms (S ++ ys2.map fun x => (x, far + 1)) = nms S ++ ys2 := by
                rw [nms_append]
                unfold nms
                rw [List.map_map]
                congr 1
                exact List.map_id' ys2
              rw [e1]; exact nb
            refine ⟨_, ?_, S ++ ys2.map (fun x => (x, far + 1)), ys2, far + 1, e2, y5', y6, y7, rfl, sm6, hD6, he6, nbS, rfl⟩
            have hl3 := lenS (E := []) nbS
            rw [List.length_append, List.length_map] at hl3 ⊢
            rw [if_neg ne]
            by_cases z : ys2 = []
            · rw [if_pos z, z]
              show 2 * (12 - (S.length + 0)) + 0 < _
              omega
            · rw [if_neg z]
              have : 0 < ys2.length := List.length_pos_iff.mpr z
              omega
      · have z : E2 = [] := by
          cases E2 with
          | nil => rfl
          | cons x r => exact absurd rfl c
        subst z
        refine ⟨.ref D, rfl, q H3 D S sm3 nDH hD3 bfs.nd fun x => ⟨bfs.sub x, fun ⟨_, o⟩ => bfs.done (nm := Nm) o⟩⟩
end
end Nl
end
section
set_option maxHeartbeats 1000000
namespace Nl
open PySem PySem.Spec PyProof.Rows L2 Nt
section
variable {P : Program} {w : World} {K : PySem.W.Frag} {mg : Str → Option Value} {base : Heap}
theorem scCkPonds : FnScope ["brims", "name"] ["brims"] (defScope sCkPonds) := ⟨rfl, rfl, rfl, by decide +kernel, rfl, by decide +kernel, by decide +kernel⟩
def spCkPonds : Sp := fun vs H Q _ => ∃ (a : Addr) (B : Br) (Pp : Pi), vs = [.ref a] ∧ H a = some (.dK (bk B)) ∧ Wf Nm B Pp ∧ ∀ H', Same H H' → Q .non H'
theorem ok_ckPonds {f fN fM : Addr} {fd fdN fdM : FuncData} {tm : Tok} (F : Fun K "check_ponds" "check_ponds" sCkPonds f fd) (FN : Fun K "is_name" "is_name" sName fN fdN) (GN : FnOk P w K mg base CX0 1 fN fdN ["thing"] spName) (bN : Binds K fdN ["thing"] []) (gN : mg "is_name" = some (.ref fN))
    (FM : Fun K "is_measure" "is_measure" sMeas fM fdM) (GM : FnOk P w K mg base CX0 2 fM fdM ["thing"] spMeas) (bM : Binds K fdM ["thing"] []) (gM : mg "is_measure" = some (.ref fM)) (ml : mg "len" = none) (gP : mg "MOST_PONDS" = some (.int 12 tm)) :
    FnOk P w K mg base CX0 3 f fd ["brims"] spCkPonds := by
  refine F.ok scCkPonds (fun vs H Q E h => ?_) (fun cdv A outer s H vs Q E hr h => ?_)
  · obtain ⟨a, B, Pp, rfl, _⟩ := h
    rfl
  · obtain ⟨a, B, Pp, rfl, hA, wf, q⟩ := h
    have hr1 := hr.mono (show 1 ≤ 2 by decide)
    refine ⟨_, pss_cons (ps_lock (ps_for PassesOwn.never rfl (pi_keys (pv 0)) (pg_name (i := 1) scCkPonds.nd rfl (.inl rfl)) (pss_one (ps_if (pt_not (pt_val (pe_call GN hr1 (by rfl) gN FN.kp bN .nil pass0 (pa_cons (pv 1) pa_nil)))) (pss_one ps_never) pss_nil))))
      (pss_cons (ps_if (pt_cmpR op_gt (pe_callB call_lenD (by rfl) ml PySem.boot_len (pa_cons (pv 0) pa_nil)) (pe_glob (v := .int 12) rfl gP ⟨_, rfl⟩) (nomark _)) (pss_one ps_never) pss_nil)
      (pss_one (ps_lock (ps_for PassesOwn.never rfl (pi_keys (pv 0)) (pg_name (i := 1) scCkPonds.nd rfl (.inl rfl)) (pss_one (ps_if (pt_not (pt_val (pe_call GM hr (by rfl) gM FM.kp bM .nil pass0 (pa_cons (pe_dget (hu_of hr) (pv 0) (pv 1) (fun _ _ => rfl)) pa_nil)))) (pss_one ps_never) pss_nil)))))), ?_⟩
    refine ⟨a, _, hA, trivial, fun od => ?_⟩
    refine ⟨.ref a, rfl, a, od, rfl, .inl ⟨_, upd_same, ?_⟩⟩
    refine for_it (n := (bk B).length) walk_keys (fun i σ H1 => ∃ y : Option V, σ = [some (.ref a), y] ∧ Same (upd H a (.frz od (.dK (bk B)))) H1) ⟨none, rfl, Same.refl _⟩ (fun i σ H1 _ ⟨_, _, h⟩ => h a _ upd_same) ?_ ?_
    · rintro i x σ H1 H1' hi ⟨y, rfl, sm⟩ ⟨rfl, kk, v, hkv, rfl⟩
      obtain ⟨p, hp, rfl, rfl⟩ := bk_at hkv
      have hn := (wf.rb p (List.mem_of_getElem? hp)).1
      refine ⟨.str p.1, rfl, p.1, rfl, hn.sm.mono (by decide), fun H2 s2 => ?_⟩
      rw [show nameB p.1 = true from hn]
      exact ⟨true, rfl, iteF ⟨_, rfl, sm.trans s2⟩⟩
    · rintro σ H1 ⟨y, rfl, sm⟩
      obtain ⟨l1, s1⟩ := same_lock hA sm
      refine ⟨l1, ?_⟩
      have hA1 := s1 a _ hA
      obtain ⟨H2, hH2⟩ : ∃ H2, H2 = upd H1 a (.dK (bk B)) := ⟨_, rfl⟩
      rw [← hH2] at hA1 s1 ⊢
      refine ⟨.ref a, rfl, a, _, rfl, hA1, _, _, rfl, rfl, _, rfl, ?_⟩
      rw [bk_len, decide_eq_false (show ¬ ((B.length : Int) > 12) by have := wf.lb; omega)]
      refine iteF ?_
      refine ⟨a, _, hA1, trivial, fun od2 => ?_⟩
      refine ⟨.ref a, rfl, a, od2, rfl, .inl ⟨_, upd_same, ?_⟩⟩
      refine for_it (n := (bk B).length) walk_keys (fun i σ H3 => ∃ y : Option V, σ = [some (.ref a), y] ∧ Same (upd H2 a (.frz od2 (.dK (bk B)))) H3) ⟨y, rfl, Same.refl _⟩ (fun i σ H3 _ ⟨_, _, h⟩ => h a _ upd_same) ?_ ?_
      · rintro i x σ H3 H3' hi ⟨y, rfl, sm3⟩ ⟨rfl, kk, v, hkv, rfl⟩
        obtain ⟨p, hp, rfl, rfl⟩ := bk_at hkv
        have hm := List.mem_of_getElem? hp
        obtain ⟨_, b1, b2⟩ := wf.rb p hm
        refine ⟨.ref a, rfl, .str p.1, rfl, a, .int p.2, rfl, .inl ⟨_, Sum.inr p.1, .inr ⟨od2, sm3 a _ upd_same⟩, rfl, ?_⟩, p.2, rfl, b1, b2, true, rfl, iteF ⟨_, rfl, sm3⟩⟩
        rw [valV_bk, getB_of_mem wf.nb hm]; rfl
      · rintro σ H3 ⟨y, rfl, sm3⟩
        obtain ⟨l3, s3⟩ := same_lock hA1 sm3
        exact ⟨l3, q _ (s1.trans s3)⟩
theorem scCkPipes : FnScope ["brims", "pipes", "pair"] ["brims", "pipes"] (defScope sCkPipes) := ⟨rfl, rfl, rfl, by decide +kernel, rfl, by decide +kernel, by decide +kernel⟩
def spCk2 (F : Br → Pi → Prop) : Sp := fun vs H Q _ => ∃ (a b : Addr) (B : Br) (Pp : Pi), vs = [.ref a, .ref b] ∧ H a = some (.dK (bk B)) ∧ H b = some (.dT (pt Pp)) ∧ Wf Nm B Pp ∧ F B Pp ∧ ∀ H', Same H H' → Q .non H'
theorem ok_ckPipes {f fN fM : Addr} {fd fdN fdM : FuncData} (F : Fun K "check_pipes" "check_pipes" sCkPipes f fd) (FN : Fun K "is_pair_of" "is_pair_of" sPairOf fN fdN) (GN : FnOk P w K mg base CX0 3 fN fdN ["brims", "thing"] spPairOf) (bN : Binds K fdN ["brims", "thing"] []) (gN : mg "is_pair_of" = some (.ref fN))
    (FM : Fun K "is_measure" "is_measure" sMeas fM fdM) (GM : FnOk P w K mg base CX0 2 fM fdM ["thing"] spMeas) (bM : Binds K fdM ["thing"] []) (gM : mg "is_measure" = some (.ref fM)) :
    FnOk P w K mg base CX0 4 f fd ["brims", "pipes"] (spCk2 fun _ _ => True) := by
  refine F.ok scCkPipes (fun vs H Q E h => ?_) (fun cdv A outer s H vs Q E hr h => ?_)
  · obtain ⟨a, b, B, Pp, rfl, _⟩ := h
    rfl
  · obtain ⟨a, b, B, Pp, rfl, hA, hB, wf, _, q⟩ := h
    have hr2 := hr.mono (show 2 ≤ 3 by decide)
    refine ⟨_, pss_one (ps_lock (ps_for PassesOwn.never rfl (pi_keys (pv 1)) (pg_name (i := 2) scCkPipes.nd rfl (.inl rfl)) (pss_one (ps_if (PW.pt (pw_or (pt_not (pt_val (pe_call GN hr (by rfl) gN FN.kp bN .nil pass0 (pa_cons (pv 0) (pa_cons (pv 2) pa_nil)))))
      (pw_or1 (pt_not (pt_val (pe_call GM hr2 (by rfl) gM FM.kp bM .nil pass0 (pa_cons (pe_dget (hu_of hr) (pv 1) (pv 2) (fun _ _ => rfl)) pa_nil))))))) (pss_one ps_never) pss_nil)))), ?_⟩
    have hab : a ≠ b := fun z => by subst z; rw [hA] at hB; cases hB
    refine ⟨b, _, hB, trivial, fun od => ?_⟩
    refine ⟨.ref b, rfl, b, od, rfl, .inr ⟨_, upd_same, ?_⟩⟩
    refine for_it (n := (pt Pp).length) walk_keysT (fun i σ H1 => ∃ y : Option V, σ = [some (.ref a), some (.ref b), y] ∧ Same (upd H b (.frz od (.dT (pt Pp)))) H1) ⟨none, rfl, Same.refl _⟩ (fun i σ H1 _ ⟨_, _, h⟩ => h b _ upd_same) ?_ ?_
    · rintro i x σ H1 H1' hi ⟨y, rfl, sm⟩ ⟨rfl, kk, v, qq, hkv, rfl, hq⟩
      obtain ⟨p, hp, rfl, rfl⟩ := pt_at hkv
      have hm := List.mem_of_getElem? hp
      obtain ⟨m1, m2, ne, w1, w2⟩ := wf.rp p hm
      obtain ⟨p1, hp1, e1⟩ := List.mem_map.mp m1
      obtain ⟨p2, hp2, e2⟩ := List.mem_map.mp m2
      have n1 : Nm p.1.1 := by rw [← (show p1.1 = p.1.1 from e1)]; exact (wf.rb p1 hp1).1
      have n2 : Nm p.1.2 := by rw [← (show p2.1 = p.1.2 from e2)]; exact (wf.rb p2 hp2).1
      refine ⟨.ref a, rfl, .ref qq, rfl, a, qq, B, p.1.1, p.1.2, rfl, .inl (sm a _ (by rw [upd_ne hab]; exact hA)), hq, n1, n2, m1, m2, ne, fun H2 s2 => ⟨true, rfl, iteF ?_⟩⟩
      refine ⟨.ref b, rfl, .ref qq, rfl, b, .int p.2, rfl, .inr ⟨_, Rl.pk p.1, qq, .inr ⟨od, s2 b _ (sm b _ upd_same)⟩, rfl, s2 qq _ hq, ?_⟩, p.2, rfl, w1, w2, true, rfl, iteF ⟨_, rfl, sm.trans s2⟩⟩
      rw [valV_pt, getP_of_mem wf.np (show (p.1, p.2) ∈ Pp from hm)]; rfl
    · rintro σ H1 ⟨y, rfl, sm⟩
      obtain ⟨l1, s1⟩ := same_lock hB sm
      exact ⟨l1, q _ s1⟩
theorem scCkSides : FnScope ["brims", "pipes", "name"] ["brims", "pipes"] (defScope sCkSides) := ⟨rfl, rfl, rfl, by decide +kernel, rfl, by decide +kernel, by decide +kernel⟩
theorem ok_ckSides {f fN fM : Addr} {fd fdN fdM : FuncData} (F : Fun K "check_sides" "check_sides" sCkSides f fd) (FN : Fun K "goes_out" "goes_out" sGoes fN fdN) (GN : FnOk P w K mg base CX0 1 fN fdN ["pipes", "name"] spGoes) (bN : Binds K fdN ["pipes", "name"] []) (gN : mg "goes_out" = some (.ref fN))
    (FM : Fun K "comes_in" "comes_in" sComes fM fdM) (GM : FnOk P w K mg base CX0 1 fM fdM ["pipes", "name"] spComes) (bM : Binds K fdM ["pipes", "name"] []) (gM : mg "comes_in" = some (.ref fM)) (ms : mg "sorted" = none) :
    FnOk P w K mg base CX0 2 f fd ["brims", "pipes"] (spCk2 Fit) := by
  refine F.ok scCkSides (fun vs H Q E h => ?_) (fun cdv A outer s H vs Q E hr h => ?_)
  · obtain ⟨a, b, B, Pp, rfl, _⟩ := h
    rfl
  · obtain ⟨a, b, B, Pp, rfl, hA, hB, wf, fit, q⟩ := h
    have hu := hu_of hr
    refine ⟨_, pss_one (ps_for PassesOwn.never rfl (pi_list (pe_callB (call_sortedD rfl) (by rfl) ms (by decide +kernel) (pa_cons (pv 0) pa_nil))) (pg_name (i := 2) scCkSides.nd rfl (.inl rfl))
      (pss_cons (ps_if (pt_cmpR op_gt (pe_call GN hr (by rfl) gN FN.kp bN .nil pass0 (pa_cons (pv 1) (pa_cons (pv 2) pa_nil))) (pe_dget hu (pv 0) (pv 2) (fun _ _ => rfl)) (nomark _)) (pss_one ps_never) pss_nil)
      (pss_one (ps_if (pt_cmpR op_gt (pe_call GM hr (by rfl) gM FM.kp bM .nil pass0 (pa_cons (pv 1) (pa_cons (pv 2) pa_nil))) (pe_dget hu (pv 0) (pv 2) (fun _ _ => rfl)) (nomark _)) (pss_one ps_never) pss_nil)))), ?_⟩
    refine ⟨.ref a, rfl, a, _, nms B, rfl, .inl hA, ?_, ?_, fun ys e pm _ ne => ?_⟩
    · unfold bk nms
      rw [List.map_map, List.map_map]; rfl
    · show (B.map _).length < 64
      rw [List.length_map]; have := wf.lb; omega
    refine ⟨e, rfl, ⟨_, SqL.of upd_same⟩, ?_⟩
    refine for_it (walk_list (K := K) (a := e) (xs := ys.map V.str)) (fun i σ H1 => ∃ y : Option V, σ = [some (.ref a), some (.ref b), y] ∧ Same (upd H e (.lst (ys.map V.str))) H1) ⟨none, rfl, Same.refl _⟩ (fun i σ H1 _ ⟨_, _, h⟩ => SqL.of (h e _ upd_same)) ?_ ?_
    · rintro i x σ H1 H1' hi ⟨y, rfl, sm⟩ ⟨rfl, hx⟩
      rw [List.getElem?_map] at hx
      cases hy : ys[i]? with
      | none => rw [hy] at hx; cases hx
      | some z =>
        rw [hy] at hx
        have hx' : V.str z = x := Option.some.inj hx
        subst hx'
        obtain ⟨p, hp, ez⟩ := List.mem_map.mp (pm.mem_iff.mp (List.mem_of_getElem? hy))
        have ez' : p.1 = z := ez
        obtain ⟨f1, f2⟩ := fit p hp
        rw [ez'] at f1 f2
        have gz : getB B z = some p.2 := getB_of_mem wf.nb (by rw [← ez']; exact hp)
        have sA := (same_new (o := .lst (ys.map V.str)) ne).trans sm
        refine ⟨.ref b, rfl, .str z, rfl, b, Pp, z, rfl, sA b _ hB, wf.np, wf.lp, fun H2 s2 => ?_⟩
        refine ⟨.ref a, rfl, .str z, rfl, a, .int p.2, rfl, .inl ⟨_, Sum.inr z, .inl (s2 a _ (sA a _ hA)), rfl, by rw [valV_bk, gz]; rfl⟩, _, _, rfl, rfl, _, rfl, ?_⟩
        rw [decide_eq_false (show ¬ (outW Pp z > p.2) by omega)]
        refine iteF ?_
        refine ⟨.ref b, rfl, .str z, rfl, b, Pp, z, rfl, s2 b _ (sA b _ hB), wf.np, wf.lp, fun H3 s3 => ?_⟩
        refine ⟨.ref a, rfl, .str z, rfl, a, .int p.2, rfl, .inl ⟨_, Sum.inr z, .inl (s3 a _ (s2 a _ (sA a _ hA))), rfl, by rw [valV_bk, gz]; rfl⟩, _, _, rfl, rfl, _, rfl, ?_⟩
        rw [decide_eq_false (show ¬ (inW Pp z > p.2) by omega)]
        exact iteF ⟨_, rfl, sm.trans (s2.trans s3)⟩
    · rintro σ H1 ⟨y, rfl, sm⟩
      exact q _ ((same_new ne).trans sm)
theorem scCkWays : FnScope ["brims", "pipes", "steps", "closed", "name"] ["brims", "pipes"] (defScope sCkWays) := ⟨rfl, rfl, rfl, by decide +kernel, rfl, by decide +kernel, by decide +kernel⟩
theorem ok_ckWays {f fN : Addr} {fd fdN : FuncData} (F : Fun K "check_ways" "check_ways" sCkWays f fd) (FN : Fun K "steps_out" "steps_out" sSteps fN fdN) (GN : FnOk P w K mg base CX0 2 fN fdN ["brims", "pipes"] spSteps) (bN : Binds K fdN ["brims", "pipes"] []) (gN : mg "steps_out" = some (.ref fN)) (ms : mg "sorted" = none) :
    FnOk P w K mg base CX0 3 f fd ["brims", "pipes"] (spCk2 fun B Pp => ∀ x ∈ nms B, Opn B Pp x) := by
  refine F.ok scCkWays (fun vs H Q E h => ?_) (fun cdv A outer s H vs Q E hr h => ?_)
  · obtain ⟨a, b, B, Pp, rfl, _⟩ := h
    rfl
  · obtain ⟨a, b, B, Pp, rfl, hA, hB, wf, op, q⟩ := h
    refine ⟨_, pss_cons (ps_set (i := 2) scCkWays.nd rfl (.inr rfl) (pe_call GN hr (by rfl) gN FN.kp bN .nil pass0 (pa_cons (pv 0) (pa_cons (pv 1) pa_nil))))
      (pss_cons (ps_setLc (i := 3) (own := [("name", 4)]) (g := gName 4) rfl scCkWays.nd rfl rfl (sw_true rfl rfl rfl (by decide +kernel)) (pi_list (pe_callB (call_sortedD rfl) (by rfl) ms (by decide +kernel) (pa_cons (pv 0) pa_nil)))
        (blkOk_by (N := ["brims", "pipes", "steps", "closed", "name"]) (sc := defScope sCkWays) (by decide +kernel)) (fun _ _ _ _ _ => pg_name (i := 4) scCkWays.nd rfl (Or.inl rfl))
        (fun _ _ _ _ _ => pts_one (pt_cmp (pc_dnotin (hu_of hr) (pv 4) (pv 2)))) (fun _ _ _ _ _ => pv 4))
      (pss_one (ps_if (pt_truth (pv 3) (by intro _; rfl)) (pss_one ps_never) pss_nil))), ?_⟩
    refine ⟨.ref a, rfl, .ref b, rfl, a, b, B, Pp, rfl, hA, hB, wf, fun H1 p S s1 np hp ndS mS => ?_⟩
    refine ⟨.ref a, rfl, a, _, nms B, rfl, .inl (s1 a _ hA), ?_, ?_, fun ys e pm _ ne => ?_⟩
    · unfold bk nms
      rw [List.map_map, List.map_map]; rfl
    · show (B.map _).length < 64
      rw [List.length_map]; have := wf.lb; omega
    have sE := same_new (o := .lst (ys.map V.str)) ne
    refine ⟨e, rfl, ⟨_, SqL.of upd_same⟩, fun D nD => ?_⟩
    refine lc_it (walk_list (K := K) (a := e) (xs := ys.map V.str)) (fun i H2 => H2 D = some (.lst []) ∧ Same (upd H1 e (.lst (ys.map V.str))) H2) ⟨upd_same, same_new nD⟩ (fun i H2 _ h => SqL.of (h.2 e _ upd_same)) ?_ ?_
    · rintro i x H2 H2' hi ⟨hD, sm⟩ ⟨rfl, hx⟩
      rw [List.getElem?_map] at hx
      cases hy : ys[i]? with
      | none => rw [hy] at hx; cases hx
      | some z =>
        rw [hy] at hx
        have hx' : V.str z = x := Option.some.inj hx
        subst hx'
        have mz : z ∈ nms B := pm.mem_iff.mp (List.mem_of_getElem? hy)
        have mz2 : z ∈ nms S := (mS z).mpr ⟨mz, op z mz⟩
        refine ⟨rfl, .str z, rfl, .ref p, rfl, p, _, rfl, .inl ⟨_, Sum.inr z, .inl (sm p _ (sE p _ hp)), rfl, rfl⟩, _, rfl, ?_⟩
        rw [valV_bk, getB_isSome, decide_eq_true mz2]
        exact iteF ⟨hD, sm⟩
    · rintro H2 ⟨hD, sm⟩
      refine ⟨.ref D, rfl, false, .inl ⟨[], SqL.of hD, rfl⟩, iteF ?_⟩
      exact q _ (s1.trans (sE.trans sm))
end
end Nl
end
section
set_option maxHeartbeats 1000000
namespace Nl
open PySem PySem.Spec PyProof.Rows L2 Nt
/-- what ins tells -/
def insOf (Pp : Pi) (z : Str) : List (Str × Int) := (Pp.filter fun p => decide (p.1.2 = z)).map fun p => (p.1.1, p.2)
/-- what outs tells -/
def outsOf (Pp : Pi) (z : Str) : List (Str × Int) := (Pp.filter fun p => decide (p.1.1 = z)).map fun p => (p.1.2, p.2)
/-- a list of tuples (a text, a number) stands there -/
def PairsAt (H : Hp) (as : List Addr) (l : List (Str × Int)) : Prop := as.length = l.length ∧ ∀ (i : Nat) (p : Str × Int), l[i]? = some p → ∃ q, as[i]? = some q ∧ H q = some (.tup [.str p.1, .int p.2])
theorem PairsAt.same {H H' : Hp} {as : List Addr} {l : List (Str × Int)} (h : PairsAt H as l) (s : Same H H') : PairsAt H' as l := ⟨h.1, fun i p e => by
  obtain ⟨q, e1, e2⟩ := h.2 i p e
  exact ⟨q, e1, s _ _ e2⟩⟩
theorem PairsAt.keep {H H' : Hp} {as : List Addr} {l : List (Str × Int)} (h : PairsAt H as l) (s : ∀ b xs, H b = some (.tup xs) → H' b = some (.tup xs)) : PairsAt H' as l := ⟨h.1, fun i p e => by
  obtain ⟨q, e1, e2⟩ := h.2 i p e
  exact ⟨q, e1, s _ _ e2⟩⟩
theorem PairsAt.push {H H' : Hp} {as : List Addr} {l : List (Str × Int)} {q : Addr} {p : Str × Int} (h : PairsAt H as l) (s : ∀ b xs, H b = some (.tup xs) → H' b = some (.tup xs)) (hq : H' q = some (.tup [.str p.1, .int p.2])) : PairsAt H' (as ++ [q]) (l ++ [p]) := by
  refine ⟨by rw [List.length_append, List.length_append, h.1]; rfl, fun i p' e => ?_⟩
  by_cases hi : i < l.length
  · rw [List.getElem?_append_left hi] at e
    obtain ⟨q', e1, e2⟩ := h.2 i p' e
    exact ⟨q', by rw [List.getElem?_append_left (by rw [h.1]; exact hi)]; exact e1, s _ _ e2⟩
  · rw [List.getElem?_append_right (by omega)] at e
    have hl : i - l.length = 0 := by
      cases hh : i - l.length with
      | zero => rfl
      | succ k => rw [hh] at e; simp at e
    rw [hl] at e
    have ep : p = p' := Option.some.inj e
    subst ep
    refine ⟨q, ?_, hq⟩
    rw [List.getElem?_append_right (by rw [h.1]; omega), h.1, hl]; rfl
/-- what an expression has made is locked for good: read, never written -/
def tFrz (t : TE) : TE := fun σ H Q => t σ H fun v H1 => ∃ d u, H1 d = some u ∧ Mut (some u) ∧ ∀ od, Q v (upd H1 d (.frz od u))
theorem pe_frz {X : Cx} {e : Expr} {t : TE} (h : PE X e t) : PE X e (tFrz t) := by
  refine ⟨fun pins s σ H Q I hw => ?_⟩
  refine thn (h.run pins s σ _ _ I hw) fun v s1 ⟨x, H1, I2, r, d, u, hd, mu, q⟩ => ?_
  obtain ⟨od, I3⟩ := I2.lock hd mu
  exact ⟨x, _, I3, r, q od⟩
section
variable {P : Program} {w : World} {K : PySem.W.Frag} {mg : Str → Option Value} {base : Heap}
def spSide (g : Pi → Str → List (Str × Int)) : Sp := fun vs H Q _ => ∃ (a : Addr) (Pp : Pi) (z : Str), vs = [.ref a, .str z] ∧ H a = some (.dT (pt Pp)) ∧ (Pp.map Prod.fst).Nodup ∧ Pp.length ≤ 200 ∧
  ∀ H' p as od, Same H H' → H p = none → H' p = some (.frz od (.lst (as.map V.ref))) → PairsAt H' as (g Pp z) → Q (.ref p) H'
theorem scPipesOut : FnScope ["pipes", "name", "one", "other"] ["pipes", "name"] (defScope sPipesOut) := ⟨rfl, rfl, rfl, by decide +kernel, rfl, by decide +kernel, by decide +kernel⟩
theorem ok_PipesOut {f : Addr} {fd : FuncData} {k : Nat} (F : Fun K "pipes_out" "pipes_out" sPipesOut f fd) : FnOk P w K mg base CX0 (k + 1) f fd ["pipes", "name"] (spSide outsOf) := by
  refine F.ok scPipesOut (fun vs H Q E h => ?_) (fun cdv A outer s H vs Q E hr h => ?_)
  · obtain ⟨a, Pp, z, rfl, _⟩ := h
    rfl
  · obtain ⟨a, Pp, z, rfl, hA, nd, hl, q⟩ := h
    refine ⟨_, pss_one (ps_ret (pe_frz (pe_lock (pe_lc (own := [("one", 2), ("other", 3)]) (g := gTup K 2 (gCons (gName 2) (gCons (gName 3) gNil)))
      (tt := tTest (tOp rEq (tVar 2) (tVar 1))) (te := tTup (tCons (tVar 3) (tCons (tDGet (tVar 0) (tTup (tCons (tVar 2) (tCons (tVar 3) tNil)))) tNil))) rfl scPipesOut.nd (pi_keys (pv 0))
      (blkOk_by (N := ["pipes", "name", "one", "other"]) (sc := defScope sPipesOut) (by decide +kernel)) (fun _ _ _ _ _ => pg_tup rfl (pgs_cons (pg_name (i := 2) scPipesOut.nd rfl (Or.inl rfl)) (pgs_cons (pg_name (i := 3) scPipesOut.nd rfl (Or.inl rfl)) pgs_nil)))
      (fun _ _ _ _ _ => pts_one (pt_cmpR op_eq (pv 2) (pv 1) (nomark _)))
      (fun _ _ _ _ _ => pe_tup (pa_cons (pv 3) (pa_cons (pe_dget (hu_of hr) (pv 0) (pe_tup (pa_cons (pv 2) (pa_cons (pv 3) pa_nil))) (fun _ _ => rfl)) pa_nil))))))), ?_⟩
    refine ⟨a, _, hA, trivial, fun od => ?_⟩
    refine ⟨.ref a, rfl, a, od, rfl, .inr ⟨_, upd_same, fun D nD => ?_⟩⟩
    have hDd : D ≠ a := fun e => by subst e; rw [upd_same] at nD; cases nD
    have nDH : H D = none := by rw [upd_ne hDd] at nD; exact nD
    refine lc_it (n := (pt Pp).length) walk_keysT (fun i H2 => ∃ as, H2 D = some (.lst (as.map V.ref)) ∧ PairsAt H2 as (outsOf (Pp.take i) z) ∧ Same (upd H a (.frz od (.dT (pt Pp)))) H2)
      ⟨[], upd_same, ⟨rfl, fun i p e => by simp [outsOf] at e⟩, same_new nD⟩ (fun i H2 _ ⟨_, _, _, h⟩ => h a _ upd_same) ?_ ?_
    · rintro i x H2 H2' hi ⟨as, hD, hP, sm⟩ ⟨rfl, kk, v, qq, hkv, rfl, hq⟩
      obtain ⟨p, hp, rfl, rfl⟩ := pt_at hkv
      have hm := List.mem_of_getElem? hp
      have tk : Pp.take (i + 1) = Pp.take i ++ [p] := by rw [List.take_add_one, hp]; rfl
      have lA : as.length ≤ 200 := by
        rw [hP.1]
        unfold outsOf
        rw [List.length_map]
        refine Nat.le_trans (List.length_filter_le _ _) ?_
        rw [List.length_take]; omega
      refine ⟨qq, [.str p.1.1, .str p.1.2], rfl, SqT.of hq, rfl, .str p.1.1, [.str p.1.2], rfl, .str p.1.2, [], rfl, rfl, rfl, ?_⟩
      refine ⟨.str p.1.1, rfl, .str z, rfl, rfl, _, rfl, ?_⟩
      rw [decStr]
      refine ite2 (fun e => ?_) (fun e => ?_)
      · refine ⟨.str p.1.2, rfl, .ref a, rfl, .str p.1.1, rfl, .str p.1.2, rfl, (by show 2 ≤ sizeLine; decide), fun t1 nt1 => ?_⟩
        have sT1 := same_new (o := .tup [.str p.1.1, .str p.1.2]) nt1
        refine ⟨a, .int p.2, rfl, .inr ⟨_, Rl.pk p.1, t1, .inr ⟨od, sT1 a _ (sm a _ upd_same)⟩, rfl, upd_same, ?_⟩, (by show 2 ≤ sizeLine; decide), fun t nt => ?_⟩
        · rw [valV_pt, getP_of_mem nd (show (p.1, p.2) ∈ Pp from hm)]; rfl
        · have hD1 := sT1 D _ hD
          have nDt : D ≠ t := ne_of_none hD1 nt
          refine ⟨_, (by rw [upd_ne nDt]; exact hD1), (by rw [List.length_map]; exact small1000 (by omega)), as ++ [t], ?_, ?_, ?_⟩
          · rw [upd_same, List.map_append]; rfl
          · rw [tk]
            unfold outsOf
            rw [List.filter_append, List.map_append]
            show PairsAt _ _ (_ ++ List.map _ (List.filter _ [p]))
            rw [List.filter_cons, if_pos e]
            refine PairsAt.push (p := (p.1.2, p.2)) (hP.same sT1) (fun b xs eb => ?_) (by rw [upd_ne (Ne.symm nDt), upd_same])
            have nb : b ≠ D := fun z => by subst z; rw [hD1] at eb; cases eb
            rw [upd_ne nb, upd_ne (ne_of_none eb nt)]; exact eb
          · exact fun c o ec => by
              have nb : c ≠ D := ne_of_none ec nD
              have e1 := sT1 c o (sm c o ec)
              rw [upd_ne nb, upd_ne (ne_of_none e1 nt)]; exact e1
      · refine ⟨as, hD, ?_, sm⟩
        rw [tk]
        unfold outsOf
        rw [List.filter_append, List.map_append]
        show PairsAt _ _ (_ ++ List.map _ (List.filter _ [p]))
        rw [List.filter_cons, if_neg e]
        simpa [outsOf] using hP
    · rintro H2 ⟨as, hD, hP, sm⟩
      obtain ⟨l1, l2⟩ := same_lock hA sm
      refine ⟨l1, ?_⟩
      rw [show (pt Pp).length = Pp.length from List.length_map _, List.take_length] at hP
      have hD3 : (upd H2 a (.dT (pt Pp))) D = some (.lst (as.map V.ref)) := by rw [upd_ne hDd]; exact hD
      refine ⟨D, _, hD3, trivial, fun od2 => ?_⟩
      refine q _ D as od2 (fun c o ec => ?_) nDH upd_same ⟨hP.1, fun i p e => ?_⟩
      · rw [upd_ne (ne_of_none ec nDH)]; exact l2 c o ec
      obtain ⟨t, e1, e2⟩ := hP.2 i p e
      refine ⟨t, e1, ?_⟩
      have nt : t ≠ a := fun z => by subst z; rw [l1] at e2; cases e2
      have nt2 : t ≠ D := fun z => by subst z; rw [hD] at e2; cases e2
      rw [upd_ne nt2, upd_ne nt]; exact e2
theorem scPipesIn : FnScope ["pipes", "name", "one", "other"] ["pipes", "name"] (defScope sPipesIn) := ⟨rfl, rfl, rfl, by decide +kernel, rfl, by decide +kernel, by decide +kernel⟩
theorem ok_PipesIn {f : Addr} {fd : FuncData} {k : Nat} (F : Fun K "pipes_in" "pipes_in" sPipesIn f fd) : FnOk P w K mg base CX0 (k + 1) f fd ["pipes", "name"] (spSide insOf) := by
  refine F.ok scPipesIn (fun vs H Q E h => ?_) (fun cdv A outer s H vs Q E hr h => ?_)
  · obtain ⟨a, Pp, z, rfl, _⟩ := h
    rfl
  · obtain ⟨a, Pp, z, rfl, hA, nd, hl, q⟩ := h
    refine ⟨_, pss_one (ps_ret (pe_frz (pe_lock (pe_lc (own := [("one", 2), ("other", 3)]) (g := gTup K 2 (gCons (gName 2) (gCons (gName 3) gNil)))
      (tt := tTest (tOp rEq (tVar 3) (tVar 1))) (te := tTup (tCons (tVar 2) (tCons (tDGet (tVar 0) (tTup (tCons (tVar 2) (tCons (tVar 3) tNil)))) tNil))) rfl scPipesIn.nd (pi_keys (pv 0))
      (blkOk_by (N := ["pipes", "name", "one", "other"]) (sc := defScope sPipesIn) (by decide +kernel)) (fun _ _ _ _ _ => pg_tup rfl (pgs_cons (pg_name (i := 2) scPipesIn.nd rfl (Or.inl rfl)) (pgs_cons (pg_name (i := 3) scPipesIn.nd rfl (Or.inl rfl)) pgs_nil)))
      (fun _ _ _ _ _ => pts_one (pt_cmpR op_eq (pv 3) (pv 1) (nomark _)))
      (fun _ _ _ _ _ => pe_tup (pa_cons (pv 2) (pa_cons (pe_dget (hu_of hr) (pv 0) (pe_tup (pa_cons (pv 2) (pa_cons (pv 3) pa_nil))) (fun _ _ => rfl)) pa_nil))))))), ?_⟩
    refine ⟨a, _, hA, trivial, fun od => ?_⟩
    refine ⟨.ref a, rfl, a, od, rfl, .inr ⟨_, upd_same, fun D nD => ?_⟩⟩
    have hDd : D ≠ a := fun e => by subst e; rw [upd_same] at nD; cases nD
    have nDH : H D = none := by rw [upd_ne hDd] at nD; exact nD
    refine lc_it (n := (pt Pp).length) walk_keysT (fun i H2 => ∃ as, H2 D = some (.lst (as.map V.ref)) ∧ PairsAt H2 as (insOf (Pp.take i) z) ∧ Same (upd H a (.frz od (.dT (pt Pp)))) H2)
      ⟨[], upd_same, ⟨rfl, fun i p e => by simp [insOf] at e⟩, same_new nD⟩ (fun i H2 _ ⟨_, _, _, h⟩ => h a _ upd_same) ?_ ?_
    · rintro i x H2 H2' hi ⟨as, hD, hP, sm⟩ ⟨rfl, kk, v, qq, hkv, rfl, hq⟩
      obtain ⟨p, hp, rfl, rfl⟩ := pt_at hkv
      have hm := List.mem_of_getElem? hp
      have tk : Pp.take (i + 1) = Pp.take i ++ [p] := by rw [List.take_add_one, hp]; rfl
      have lA : as.length ≤ 200 := by
        rw [hP.1]
        unfold insOf
        rw [List.length_map]
        refine Nat.le_trans (List.length_filter_le _ _) ?_
        rw [List.length_take]; omega
      refine ⟨qq, [.str p.1.1, .str p.1.2], rfl, SqT.of hq, rfl, .str p.1.1, [.str p.1.2], rfl, .str p.1.2, [], rfl, rfl, rfl, ?_⟩
      refine ⟨.str p.1.2, rfl, .str z, rfl, rfl, _, rfl, ?_⟩
      rw [decStr]
      refine ite2 (fun e => ?_) (fun e => ?_)
      · refine ⟨.str p.1.1, rfl, .ref a, rfl, .str p.1.1, rfl, .str p.1.2, rfl, (by show 2 ≤ sizeLine; decide), fun t1 nt1 => ?_⟩
        have sT1 := same_new (o := .tup [.str p.1.1, .str p.1.2]) nt1
        refine ⟨a, .int p.2, rfl, .inr ⟨_, Rl.pk p.1, t1, .inr ⟨od, sT1 a _ (sm a _ upd_same)⟩, rfl, upd_same, ?_⟩, (by show 2 ≤ sizeLine; decide), fun t nt => ?_⟩
        · rw [valV_pt, getP_of_mem nd (show (p.1, p.2) ∈ Pp from hm)]; rfl
        · have hD1 := sT1 D _ hD
          have nDt : D ≠ t := ne_of_none hD1 nt
          refine ⟨_, (by rw [upd_ne nDt]; exact hD1), (by rw [List.length_map]; exact small1000 (by omega)), as ++ [t], ?_, ?_, ?_⟩
          · rw [upd_same, List.map_append]; rfl
          · rw [tk]
            unfold insOf
            rw [List.filter_append, List.map_append]
            show PairsAt _ _ (_ ++ List.map _ (List.filter _ [p]))
            rw [List.filter_cons, if_pos e]
            refine PairsAt.push (p := (p.1.1, p.2)) (hP.same sT1) (fun b xs eb => ?_) (by rw [upd_ne (Ne.symm nDt), upd_same])
            have nb : b ≠ D := fun z => by subst z; rw [hD1] at eb; cases eb
            rw [upd_ne nb, upd_ne (ne_of_none eb nt)]; exact eb
          · exact fun c o ec => by
              have nb : c ≠ D := ne_of_none ec nD
              have e1 := sT1 c o (sm c o ec)
              rw [upd_ne nb, upd_ne (ne_of_none e1 nt)]; exact e1
      · refine ⟨as, hD, ?_, sm⟩
        rw [tk]
        unfold insOf
        rw [List.filter_append, List.map_append]
        show PairsAt _ _ (_ ++ List.map _ (List.filter _ [p]))
        rw [List.filter_cons, if_neg e]
        simpa [insOf] using hP
    · rintro H2 ⟨as, hD, hP, sm⟩
      obtain ⟨l1, l2⟩ := same_lock hA sm
      refine ⟨l1, ?_⟩
      rw [show (pt Pp).length = Pp.length from List.length_map _, List.take_length] at hP
      have hD3 : (upd H2 a (.dT (pt Pp))) D = some (.lst (as.map V.ref)) := by rw [upd_ne hDd]; exact hD
      refine ⟨D, _, hD3, trivial, fun od2 => ?_⟩
      refine q _ D as od2 (fun c o ec => ?_) nDH upd_same ⟨hP.1, fun i p e => ?_⟩
      · rw [upd_ne (ne_of_none ec nDH)]; exact l2 c o ec
      obtain ⟨t, e1, e2⟩ := hP.2 i p e
      refine ⟨t, e1, ?_⟩
      have nt : t ≠ a := fun z => by subst z; rw [l1] at e2; cases e2
      have nt2 : t ≠ D := fun z => by subst z; rw [hD] at e2; cases e2
      rw [upd_ne nt2, upd_ne nt]; exact e2
end
end Nl
end
section
set_option maxHeartbeats 1000000
namespace Nl
open PySem PySem.Spec PyProof.Rows L2 Nt
/-! ### the object -/
theorem bw : ¬ (("brim_by_pond" : Str) = "width_by_pair") := by decide +kernel
theorem bo : ¬ (("brim_by_pond" : Str) = "outs_by_pond") := by decide +kernel
theorem bi : ¬ (("brim_by_pond" : Str) = "ins_by_pond") := by decide +kernel
theorem wo : ¬ (("width_by_pair" : Str) = "outs_by_pond") := by decide +kernel
theorem wi : ¬ (("width_by_pair" : Str) = "ins_by_pond") := by decide +kernel
theorem oi : ¬ (("outs_by_pond" : Str) = "ins_by_pond") := by decide +kernel
/-- where a net's other dicts stand: widths, outs, ins -/
structure Dd where
  w : Addr
  o : Addr
  i : Addr
def nf (d1 : Addr) (d2 : Dd) : List (Str × V) := putF "ins_by_pond" (.ref d2.i) (putF "outs_by_pond" (.ref d2.o) (putF "width_by_pair" (.ref d2.w) (putF "brim_by_pond" (.ref d1) [])))
theorem nf_b (d1 : Addr) (d2 : Dd) : (nf d1 d2).lookup ("brim_by_pond" : Str) = some (.ref d1) := by
  unfold nf
  rw [lookup_putF, if_neg bi, lookup_putF, if_neg bo, lookup_putF, if_neg bw, lookup_putF, if_pos rfl]
theorem nf_w (d1 : Addr) (d2 : Dd) : (nf d1 d2).lookup ("width_by_pair" : Str) = some (.ref d2.w) := by
  unfold nf
  rw [lookup_putF, if_neg wi, lookup_putF, if_neg wo, lookup_putF, if_pos rfl]
theorem nf_o (d1 : Addr) (d2 : Dd) : (nf d1 d2).lookup ("outs_by_pond" : Str) = some (.ref d2.o) := by
  unfold nf
  rw [lookup_putF, if_neg oi, lookup_putF, if_pos rfl]
theorem nf_i (d1 : Addr) (d2 : Dd) : (nf d1 d2).lookup ("ins_by_pond" : Str) = some (.ref d2.i) := by
  unfold nf
  rw [lookup_putF, if_pos rfl]
theorem nf_no (d1 : Addr) (d2 : Dd) {m : Str} (h1 : ¬ m = "width_by_pair") (h2 : ¬ m = "brim_by_pond") (h3 : ¬ m = "outs_by_pond") (h4 : ¬ m = "ins_by_pond") : (nf d1 d2).lookup m = none := by
  unfold nf
  rw [lookup_putF, if_neg h4, lookup_putF, if_neg h3, lookup_putF, if_neg h1, lookup_putF, if_neg h2]; rfl
/-- a dict from each pond to a list of pairs -/
def SideAt (H : Hp) (d : Addr) (g : Str → List (Str × Int)) (l : List Str) : Prop := ∃ ls : List (Str × Addr), H d = some (.dK (ls.map fun p => ((Sum.inr p.1 : Key), V.ref p.2))) ∧ ls.map Prod.fst = l ∧ ∀ p ∈ ls, ∃ as od, H p.2 = some (.frz od (.lst (as.map V.ref))) ∧ PairsAt H as (g p.1)
theorem SideAt.keep {H H' : Hp} {d : Addr} {g : Str → List (Str × Int)} {l : List Str} (h : SideAt H d g l) (kd : ∀ x, H d = some x → H' d = some x) (kl : ∀ b od xs, H b = some (.frz od (.lst xs)) → H' b = some (.frz od (.lst xs))) (kt : ∀ b xs, H b = some (.tup xs) → H' b = some (.tup xs)) : SideAt H' d g l := by
  obtain ⟨ls, a, b, c⟩ := h
  refine ⟨ls, kd _ a, b, fun p hp => ?_⟩
  obtain ⟨as, od, e1, e2⟩ := c p hp
  exact ⟨as, od, kl _ _ _ e1, e2.keep kt⟩
theorem SideAt.same {H H' : Hp} {d : Addr} {g : Str → List (Str × Int)} {l : List Str} (h : SideAt H d g l) (s : Same H H') : SideAt H' d g l := h.keep (fun _ e => s _ _ e) (fun _ _ _ e => s _ _ e) (fun _ _ e => s _ _ e)
structure NetAt (C : Addr) (H : Hp) (n : Addr) (B : Br) (Pp : Pi) : Prop where
  at_ : ∃ dx d1 d2, H n = some (.ins C dx (nf d1 d2)) ∧ H d1 = some (.dK (bk B)) ∧ H d2.w = some (.dT (pt Pp)) ∧ SideAt H d2.o (outsOf Pp) (nms B) ∧ SideAt H d2.i (insOf Pp) (nms B)
theorem NetAt.same {C : Addr} {H H' : Hp} {n : Addr} {B : Br} {Pp : Pi} (h : NetAt C H n B Pp) (s : Same H H') : NetAt C H' n B Pp := by
  obtain ⟨dx, d1, d2, a, b, c, e, f⟩ := h
  exact ⟨dx, d1, d2, s _ _ a, s _ _ b, s _ _ c, e.same s, f.same s⟩
/-- a net that is let -/
structure Good (B : Br) (Pp : Pi) : Prop where
  wf : Wf Nm B Pp
  fit : Fit B Pp
  op : ∀ x ∈ nms B, Opn B Pp x
theorem Good.perm {B B' : Br} {P P' : Pi} (h : Good B P) (hB : B.Perm B') (hP : P.Perm P') : Good B' P' where
  wf := h.wf.perm hB hP
  fit := fun p hp => by
    have := h.fit p (hB.mem_iff.mpr hp)
    rw [outW_perm hP, inW_perm hP] at this
    exact this
  op := fun x hx => (h.op x ((hB.map Prod.fst).mem_iff.mpr hx)).perm hB hP
structure TxN (K : PySem.W.Frag) (mg : Str → Option Value) (C : Addr) : Prop where
  cl : Cls K C
  nB : NoAttr K C "brim_by_pond"
  nW : NoAttr K C "width_by_pair"
  nO : NoAttr K C "outs_by_pond"
  nI : NoAttr K C "ins_by_pond"
  mgC : mg "Net" = some (.ref C)
theorem nms_len' (B : Br) : (nms B).length = B.length := List.length_map _
def reB (B : Br) (ys : List Str) : Br := ys.map fun x => (x, (getB B x).getD 0)
theorem reB_perm {B : Br} (nd : (nms B).Nodup) {ys : List Str} (pm : ys.Perm (nms B)) : (reB B ys).Perm B := by
  have h1 : (reB B ys).Perm (reB B (nms B)) := pm.map _
  have h2 : reB B (nms B) = B := by
    unfold reB nms
    rw [List.map_map]
    conv => rhs; rw [← List.map_id B]
    refine List.map_congr_left fun p hp => ?_
    show (p.1, (getB B p.1).getD 0) = p
    rw [getB_of_mem nd (show (p.1, p.2) ∈ B from hp)]; rfl
  rw [h2] at h1
  exact h1
def reP (Pp : Pi) (qs : List (Str × Str)) : Pi := qs.map fun q => (q, (getP Pp q).getD 0)
theorem reP_perm {Pp : Pi} (nd : (Pp.map Prod.fst).Nodup) {qs : List (Str × Str)} (pm : qs.Perm (Pp.map Prod.fst)) : (reP Pp qs).Perm Pp := by
  have h1 : (reP Pp qs).Perm (reP Pp (Pp.map Prod.fst)) := pm.map _
  have h2 : reP Pp (Pp.map Prod.fst) = Pp := by
    unfold reP
    rw [List.map_map]
    conv => rhs; rw [← List.map_id Pp]
    refine List.map_congr_left fun p hp => ?_
    show (p.1, (getP Pp p.1).getD 0) = p
    rw [getP_of_mem nd (show (p.1, p.2) ∈ Pp from hp)]; rfl
  rw [h2] at h1
  exact h1
theorem pt_append (S T : Pi) : pt (S ++ T) = pt S ++ pt T := List.map_append
theorem pt_len (S : Pi) : (pt S).length = S.length := List.length_map _
theorem getP_none {Pp : Pi} {q : Str × Str} (h : q ∉ Pp.map Prod.fst) : getP Pp q = none := by
  unfold getP
  rw [List.find?_eq_none.mpr (fun p hp => by
    have : p.1 ≠ q := fun e => h (List.mem_map.mpr ⟨p, hp, e⟩)
    simpa using this)]
  rfl
theorem putK_pt {S : Pi} {q : Str × Str} {n : Int} (h : q ∉ S.map Prod.fst) : putK (pt S) (Rl.pk q) (.int n) = pt (S ++ [(q, n)]) := by
  rw [putK_new _ (by rw [valV_pt, getP_none h]; rfl), pt_append]; rfl
theorem take_nd {α : Type} {l : List α} (nd : l.Nodup) {i : Nat} {x : α} (h : l[i]? = some x) : x ∉ l.take i := by
  intro m
  have h2 : (l.take (i + 1)).Nodup := List.Nodup.sublist (List.take_sublist _ _) nd
  rw [List.take_add_one, h, List.nodup_append] at h2
  exact h2.2.2 x m x (List.mem_singleton.mpr rfl) rfl
section
variable {P : Program} {w : World} {K : PySem.W.Frag} {mg : Str → Option Value} {base : Heap}
theorem scNInit : FnScope ["self", "brims", "pipes", "laid", "name", "one", "other"] ["self", "brims", "pipes"] (defScope mNet_init) := ⟨rfl, rfl, rfl, by decide +kernel, rfl, by decide +kernel, by decide +kernel⟩
def spNInit (C : Addr) : Sp := fun vs H Q _ => ∃ (n dx a b : Addr) (B : Br) (Pp : Pi), vs = [.ref n, .ref a, .ref b] ∧ H n = some (.ins C dx []) ∧ H a = some (.dK (bk B)) ∧ H b = some (.dT (pt Pp)) ∧ Good B Pp ∧
  ∀ (H' : Hp) (B' : Br) (P' : Pi), NetAt C H' n B' P' → B'.Perm B → P'.Perm Pp → sortedS (nms B') = true → (P'.map Prod.fst).Pairwise (fun x y => Rl.ltP y x = false) → (∃ dx' d1 d2, H' n = some (.ins C dx' (nf d1 d2)) ∧ H d1 = none ∧ H d2.o = none ∧ H d2.i = none) → (∀ b o, H b = some o → b ≠ n → H' b = some o) → Q .non H'
/-- the net's fields behind each of the four stores -/
theorem f2_b (d1 d2 : Addr) : (putF "width_by_pair" (.ref d2) (putF "brim_by_pond" (.ref d1) [])).lookup ("brim_by_pond" : Str) = some (V.ref d1) := by
  rw [lookup_putF, if_neg bw, lookup_putF, if_pos rfl]
theorem f2_w (d1 d2 : Addr) : (putF "width_by_pair" (.ref d2) (putF "brim_by_pond" (.ref d1) [])).lookup ("width_by_pair" : Str) = some (V.ref d2) := by
  rw [lookup_putF, if_pos rfl]
theorem f3_b (d1 d2 d3 : Addr) : (putF "outs_by_pond" (.ref d3) (putF "width_by_pair" (.ref d2) (putF "brim_by_pond" (.ref d1) []))).lookup ("brim_by_pond" : Str) = some (V.ref d1) := by
  rw [lookup_putF, if_neg bo, f2_b]
theorem f3_w (d1 d2 d3 : Addr) : (putF "outs_by_pond" (.ref d3) (putF "width_by_pair" (.ref d2) (putF "brim_by_pond" (.ref d1) []))).lookup ("width_by_pair" : Str) = some (V.ref d2) := by
  rw [lookup_putF, if_neg wo, f2_w]
theorem rk_val {ls : List (Str × Addr)} {z : Str} (h : z ∉ ls.map Prod.fst) : valV (ls.map fun p => ((Sum.inr p.1 : Key), V.ref p.2)) (Sum.inr z) = none := by
  unfold valV
  rw [List.find?_eq_none.mpr (fun p hp => by
    obtain ⟨q, hq, rfl⟩ := List.mem_map.mp hp
    have : q.1 ≠ z := fun e => h (List.mem_map.mpr ⟨q, hq, e⟩)
    simpa using this)]
  rfl
/-- {name: f(..) for name in d}, where each value is a new list of pairs -/
theorem side_dc {B : Br} {g : Str → List (Str × Int)} {d D : Addr} {od : Obj} {H1 : Hp} {σ : L2.St} {tv : TE} {j : Nat} {Qd : Hp → Prop} (nd : (nms B).Nodup) (ln : B.length ≤ 12) (he : H1 d = some (.frz od (.dK (bk B)))) (nD : H1 D = none)
    (hj : ∀ z : Str, ((wipe σ [j]).set j (some (.str z)))[j]? = some (some (V.str z))) (hw : ∀ z : Str, wipe ((wipe σ [j]).set j (some (.str z))) [j] = wipe σ [j])
    (ht : ∀ (z : Str) (H2 : Hp) (R : V → Hp → Prop), z ∈ nms B → Same H1 H2 → (∀ H3 p as od, Same H2 H3 → H2 p = none → H3 p = some (.frz od (.lst (as.map V.ref))) → PairsAt H3 as (g z) → R (.ref p) H3) → tv ((wipe σ [j]).set j (some (.str z))) H2 R)
    (hd : ∀ H2, SideAt H2 D g (nms B) → Same H1 H2 → Qd H2) :
    ∃ W : Nat → Nat → Hp → Prop, (∃ m, W 0 m (upd H1 D (.dK []))) ∧ ∀ i m H, W i m H →
      ((Itk d od (bk B)).stop i H ∧ Qd H) ∨ ((Itk d od (bk B)).go i H ∧ ∃ Nx : Hp → Prop, (∀ H', Nx H' → ∃ m', m' < m ∧ W (i + 1) m' H') ∧
        ∀ x H', (Itk d od (bk B)).yld i H x H' → gName j x (wipe σ [j]) H' fun σ2 H2 => wipe σ2 [j] = wipe σ [j] ∧ tYes σ2 H2 fun b H3 => if b = true then Rl.tbD (tVar j) tv D σ2 H3 Nx else Nx H3) := by
  refine Rl.gc_it (n := (bk B).length) (b0 := fun _ => .dK []) walk_keys (fun i H2 => SideAt H2 D g ((nms B).take i) ∧ Same H1 H2) ⟨⟨[], upd_same, rfl, fun p hp => (List.not_mem_nil hp).elim⟩, same_new nD⟩ (fun i H2 _ h => h.2 d _ he) ?_ ?_
  · rintro i x H2 H2' hi ⟨⟨ls, hD, hk, hl⟩, sm⟩ ⟨rfl, kk, v, hkv, rfl⟩
    obtain ⟨p, hp, rfl, rfl⟩ := bk_at hkv
    have hn : (nms B)[i]? = some p.1 := by unfold nms; rw [List.getElem?_map, hp]; rfl
    refine ⟨hw p.1, ?_⟩
    show Rl.tbD (tVar j) tv D (List.set (wipe σ [j]) j (some (V.str p.1))) H2' fun H2 => SideAt H2 D g ((nms B).take (i + 1)) ∧ Same H1 H2
    refine ⟨.str p.1, hj p.1, ht p.1 H2' _ (List.mem_of_getElem? hn) sm fun H3 q as oq s3 nq hq hP => ⟨_, DPut.k (k := Sum.inr p.1) (s3 D _ hD) ?_, ?_, ?_⟩⟩
    · rw [List.length_map]
      have e1 := congrArg List.length hk
      rw [List.length_map, List.length_take] at e1
      exact small1000 (by have : (nms B).length = B.length := List.length_map _; omega)
    · have fr : p.1 ∉ ls.map Prod.fst := by rw [hk]; exact take_nd nd hn
      have hD3 := s3 D _ hD
      have kl : ∀ b od xs, H3 b = some (.frz od (.lst xs)) → (upd H3 D (.dK (putK (ls.map fun p => ((Sum.inr p.1 : Key), V.ref p.2)) (Sum.inr p.1) (.ref q)))) b = some (.frz od (.lst xs)) := fun b od xs e => by
        rw [upd_ne (fun z => by subst z; rw [hD3] at e; cases e)]; exact e
      have kt : ∀ b xs, H3 b = some (.tup xs) → (upd H3 D (.dK (putK (ls.map fun p => ((Sum.inr p.1 : Key), V.ref p.2)) (Sum.inr p.1) (.ref q)))) b = some (.tup xs) := fun b xs e => by
        rw [upd_ne (fun z => by subst z; rw [hD3] at e; cases e)]; exact e
      refine ⟨ls ++ [(p.1, q)], ?_, ?_, fun r hr => ?_⟩
      · rw [upd_same, putK_new _ (rk_val fr), List.map_append]; rfl
      · rw [List.map_append, hk, List.take_add_one, hn]; rfl
      · rcases List.mem_append.mp hr with hr | hr
        · obtain ⟨as', od', e1, e2⟩ := hl r hr
          exact ⟨as', od', kl _ _ _ (s3 _ _ e1), (e2.same s3).keep kt⟩
        · have er : r = (p.1, q) := by simpa using hr
          subst er
          exact ⟨as, oq, kl _ _ _ hq, hP.keep kt⟩
    · exact fun c o ec => by
        have nb : c ≠ D := ne_of_none ec nD
        rw [upd_ne nb]; exact s3 c o (sm c o ec)
  · rintro H2 ⟨S, sm⟩
    rw [bk_len, ← nms_len', List.take_length] at S
    exact hd H2 S sm
/-- and the dict that was walked is itself again -/
theorem SideAt.unlock {H1 : Hp} {d D : Addr} {od : Obj} {u : List (Key × V)} {g : Str → List (Str × Int)} {l : List Str} (S : SideAt H1 D g l) (l1 : H1 d = some (.frz od (.dK u))) : SideAt (upd H1 d (.dK u)) D g l := by
  have k : ∀ {b : Addr} {o : HO}, H1 b = some o → (∀ od v, o ≠ .frz od (.dK v)) → (upd H1 d (.dK u)) b = some o := fun {b o} e no => by
    rw [upd_ne (fun z => by subst z; rw [l1] at e; exact no _ _ (Option.some.inj e).symm)]; exact e
  obtain ⟨ls, a, b, c⟩ := S
  refine ⟨ls, k a (fun _ v e => by cases e), b, fun p hp => ?_⟩
  obtain ⟨as, oq, e1, e2⟩ := c p hp
  exact ⟨as, oq, k e1 (fun _ v e => by cases e), e2.keep fun b xs e => k e (fun _ v e => by cases e)⟩
theorem ok_nInit {f C f1 f2 f3 f4 f5 f6 : Addr} {fd fd1 fd2 fd3 fd4 fd5 fd6 : FuncData} (F : FunD K "__init__" "Net.__init__" (defArgs mNet_init) (defBody mNet_init) (defScope mNet_init) [.non] [] f fd) (T : TxN K mg C)
    (F1 : Fun K "check_ponds" "check_ponds" sCkPonds f1 fd1) (G1 : FnOk P w K mg base CX0 3 f1 fd1 ["brims"] spCkPonds) (b1 : Binds K fd1 ["brims"] []) (g1 : mg "check_ponds" = some (.ref f1))
    (F2 : Fun K "check_pipes" "check_pipes" sCkPipes f2 fd2) (G2 : FnOk P w K mg base CX0 4 f2 fd2 ["brims", "pipes"] (spCk2 fun _ _ => True)) (b2 : Binds K fd2 ["brims", "pipes"] []) (g2 : mg "check_pipes" = some (.ref f2))
    (F3 : Fun K "check_sides" "check_sides" sCkSides f3 fd3) (G3 : FnOk P w K mg base CX0 2 f3 fd3 ["brims", "pipes"] (spCk2 Fit)) (b3 : Binds K fd3 ["brims", "pipes"] []) (g3 : mg "check_sides" = some (.ref f3))
    (F4 : Fun K "check_ways" "check_ways" sCkWays f4 fd4) (G4 : FnOk P w K mg base CX0 3 f4 fd4 ["brims", "pipes"] (spCk2 fun B Pp => ∀ x ∈ nms B, Opn B Pp x)) (b4 : Binds K fd4 ["brims", "pipes"] []) (g4 : mg "check_ways" = some (.ref f4))
    (F5 : Fun K "pipes_out" "pipes_out" sPipesOut f5 fd5) (G5 : FnOk P w K mg base CX0 1 f5 fd5 ["pipes", "name"] (spSide outsOf)) (b5 : Binds K fd5 ["pipes", "name"] []) (g5 : mg "pipes_out" = some (.ref f5))
    (F6 : Fun K "pipes_in" "pipes_in" sPipesIn f6 fd6) (G6 : FnOk P w K mg base CX0 1 f6 fd6 ["pipes", "name"] (spSide insOf)) (b6 : Binds K fd6 ["pipes", "name"] []) (g6 : mg "pipes_in" = some (.ref f6))
    (mi : mg "isinstance" = none) (md : mg "dict" = none) (ms : mg "sorted" = none) : FnOk P w K mg base CX0 5 f fd ["self", "brims", "pipes"] (spNInit C) := by
  refine F.ok scNInit (fun vs H Q E h => ?_) (fun cdv A outer s H vs Q E hr h => ?_)
  · obtain ⟨n, dx, a, b, B, Pp, rfl, _⟩ := h
    rfl
  · obtain ⟨n, dx, a, b, B, Pp, rfl, hn, hA, hB, good, q⟩ := h
    have hu := hu_of hr
    have wf := good.wf
    refine ⟨_, PSs.nox (pss_cons (ps_set (i := 3) scNInit.nd rfl (.inr rfl) (pe_ifExp (pt_cmp (pc_isN (pv 2))) pe_dnewT (pv 2)))
      (pss_cons (ps_if (PW.pt (pw_or (pt_not (pt_val (pe_callB call_isi (by rfl) mi (by decide +kernel) (pa_cons (pv 1) (pa_cons (pe_bltn (v := .ty "dict") (by rfl) md (by decide +kernel) rfl) pa_nil)))))
        (pw_or1 (pt_not (pt_val (pe_callB call_isi (by rfl) mi (by decide +kernel) (pa_cons (pv 3) (pa_cons (pe_bltn (v := .ty "dict") (by rfl) md (by decide +kernel) rfl) pa_nil)))))))) (pss_one ps_never) pss_nil)
      (pss_cons (ps_expr (pe_call G1 (hr.mono (by decide)) (by rfl) g1 F1.kp b1 .nil pass0 (pa_cons (pv 1) pa_nil)))
      (pss_cons (ps_expr (pe_call G2 hr (by rfl) g2 F2.kp b2 .nil pass0 (pa_cons (pv 1) (pa_cons (pv 3) pa_nil))))
      (pss_cons (ps_expr (pe_call G3 (hr.mono (by decide)) (by rfl) g3 F3.kp b3 .nil pass0 (pa_cons (pv 1) (pa_cons (pv 3) pa_nil))))
      (pss_cons (ps_expr (pe_call G4 (hr.mono (by decide)) (by rfl) g4 F4.kp b4 .nil pass0 (pa_cons (pv 1) (pa_cons (pv 3) pa_nil))))
      (pss_cons (ps_fld (pv 0) (Rl.pe_dcP (T := .dK []) (own := [("name", 4)]) (g := gName 4) (tt := tYes) (.inr rfl) hr rfl scNInit.nd (pi_list (pe_callB (call_sortedD rfl) (by rfl) ms (by decide +kernel) (pa_cons (pv 1) pa_nil)))
        (blkOk_by (N := ["self", "brims", "pipes", "laid", "name", "one", "other"]) (sc := defScope mNet_init) (by decide +kernel)) (fun _ _ _ _ _ => pg_name (i := 4) scNInit.nd rfl (Or.inl rfl)) (fun _ _ _ _ _ => pts_nil)
        (fun _ _ _ _ _ => pv 4) (fun _ _ _ _ _ => pe_dget hu (pv 1) (pv 4) (fun _ _ => rfl))) rfl)
      (pss_cons (ps_fld (pv 0) (Rl.pe_dcP (T := .dT []) (own := [("one", 5), ("other", 6)]) (g := gTup K 2 (gCons (gName 5) (gCons (gName 6) gNil))) (tt := tYes) (.inl rfl) hr rfl scNInit.nd (pi_list (pe_callB (Rl.call_sortD rfl) (by rfl) ms (by decide +kernel) (pa_cons (pv 3) pa_nil)))
        (blkOk_by (N := ["self", "brims", "pipes", "laid", "name", "one", "other"]) (sc := defScope mNet_init) (by decide +kernel)) (fun _ _ _ _ _ => pg_tup rfl (pgs_cons (pg_name (i := 5) scNInit.nd rfl (Or.inl rfl)) (pgs_cons (pg_name (i := 6) scNInit.nd rfl (Or.inl rfl)) pgs_nil))) (fun _ _ _ _ _ => pts_nil)
        (fun _ _ _ _ _ => pe_tup (pa_cons (pv 5) (pa_cons (pv 6) pa_nil))) (fun _ _ _ _ _ => pe_dget hu (pv 3) (pe_tup (pa_cons (pv 5) (pa_cons (pv 6) pa_nil))) (fun _ _ => rfl))) rfl)
      (pss_cons (ps_fld (pv 0) (pe_lock (Rl.pe_dcP (T := .dK []) (own := [("name", 4)]) (g := gName 4) (tt := tYes) (tk := tVar 4) (tv := tCall (spSide outsOf) [] (fun _ _ _ => False) (tCons (tFld K (tVar 0) "width_by_pair") (tCons (tVar 4) tNil))) (.inr rfl) hr rfl scNInit.nd (pi_keys (pe_fld (pv 0) rfl))
        (blkOk_by (N := ["self", "brims", "pipes", "laid", "name", "one", "other"]) (sc := defScope mNet_init) (by decide +kernel)) (fun _ _ _ _ _ => pg_name (i := 4) scNInit.nd rfl (Or.inl rfl)) (fun _ _ _ _ _ => pts_nil)
        (fun _ _ _ _ _ => pv 4) (fun _ _ _ _ _ => pe_call G5 (hr.mono (by decide)) (by rfl) g5 F5.kp b5 .nil pass0 (pa_cons (pe_fld (pv 0) rfl) (pa_cons (pv 4) pa_nil))))) rfl)
      (pss_one (ps_fld (pv 0) (pe_lock (Rl.pe_dcP (T := .dK []) (own := [("name", 4)]) (g := gName 4) (tt := tYes) (tk := tVar 4) (tv := tCall (spSide insOf) [] (fun _ _ _ => False) (tCons (tFld K (tVar 0) "width_by_pair") (tCons (tVar 4) tNil))) (.inr rfl) hr rfl scNInit.nd (pi_keys (pe_fld (pv 0) rfl))
        (blkOk_by (N := ["self", "brims", "pipes", "laid", "name", "one", "other"]) (sc := defScope mNet_init) (by decide +kernel)) (fun _ _ _ _ _ => pg_name (i := 4) scNInit.nd rfl (Or.inl rfl)) (fun _ _ _ _ _ => pts_nil)
        (fun _ _ _ _ _ => pv 4) (fun _ _ _ _ _ => pe_call G6 (hr.mono (by decide)) (by rfl) g6 F6.kp b6 .nil pass0 (pa_cons (pe_fld (pv 0) rfl) (pa_cons (pv 4) pa_nil))))) rfl))))))))))), ?_⟩
    -- laid
    refine ⟨.ref b, rfl, false, rfl, iteF ⟨.ref b, rfl, ?_⟩⟩
    refine ⟨.ref a, rfl, .ref a, .ty "dict", .type "dict", .type "dict", true, rfl, .ty _, .base (.dK hA), kit_ty (by decide +kernel), true, rfl, iteF ?_⟩
    refine ⟨.ref b, rfl, .ref b, .ty "dict", .type "dict", .type "dict", true, rfl, .ty _, .base (.dT hB), kit_ty (by decide +kernel), true, rfl, iteF ?_⟩
    refine ⟨.ref a, rfl, a, B, Pp, rfl, hA, wf, fun H1 s1 => ?_⟩
    refine ⟨.ref a, rfl, .ref b, rfl, a, b, B, Pp, rfl, s1 a _ hA, s1 b _ hB, wf, trivial, fun H2 s2 => ?_⟩
    have s12 := s1.trans s2
    refine ⟨.ref a, rfl, .ref b, rfl, a, b, B, Pp, rfl, s12 a _ hA, s12 b _ hB, wf, good.fit, fun H3 s3 => ?_⟩
    have s13 := s12.trans s3
    refine ⟨.ref a, rfl, .ref b, rfl, a, b, B, Pp, rfl, s13 a _ hA, s13 b _ hB, wf, good.op, fun H4 s4 => ?_⟩
    have s14 := s13.trans s4
    -- self.brim_by_pond
    refine ⟨.ref a, rfl, a, _, nms B, rfl, .inl (s14 a _ hA), ?_, ?_, fun ys e pm srt ne => ?_⟩
    · unfold bk nms
      rw [List.map_map, List.map_map]; rfl
    · show (B.map _).length < 64
      rw [List.length_map]; have := wf.lb; omega
    have ndy : ys.Nodup := pm.nodup_iff.mpr wf.nb
    have sE := same_new (o := .lst (ys.map V.str)) ne
    refine ⟨e, rfl, ⟨_, SqL.of upd_same⟩, fun D nD => ?_⟩
    refine Rl.gc_it (b0 := fun _ => .dK []) (walk_list (K := K) (a := e) (xs := ys.map V.str)) (fun i H5 => H5 D = some (.dK (bk (reB B (ys.take i)))) ∧ Same (upd H4 e (.lst (ys.map V.str))) H5) ⟨upd_same, same_new nD⟩ (fun i H5 _ h => SqL.of (h.2 e _ upd_same)) ?_ ?_
    · rintro i x H5 H5' hi ⟨hD, sm⟩ ⟨rfl, hx⟩
      rw [List.getElem?_map] at hx
      cases hy : ys[i]? with
      | none => rw [hy] at hx; cases hx
      | some z =>
        rw [hy] at hx
        have hx' : V.str z = x := Option.some.inj hx
        subst hx'
        obtain ⟨c, hc⟩ := getB_some (pm.mem_iff.mp (List.mem_of_getElem? hy))
        refine ⟨rfl, .str z, rfl, .ref a, rfl, .str z, rfl, a, .int c, rfl, .inl ⟨_, Sum.inr z, .inl (sm a _ (sE a _ (s14 a _ hA))), rfl, by rw [valV_bk, hc]; rfl⟩, _, DPut.k (k := Sum.inr z) hD ?_, ?_, ?_⟩
        · rw [bk_len]
          unfold reB
          rw [List.length_map, List.length_take]
          have := pm.length_eq
          have h2 : (nms B).length = B.length := List.length_map _
          have := wf.lb
          exact small1000 (by omega)
        · have fr : z ∉ nms (reB B (ys.take i)) := by
            unfold nms reB
            rw [List.map_map]
            intro m
            obtain ⟨u, hu', eu⟩ := List.mem_map.mp m
            exact take_nd ndy hy (by rw [← (show u = z from eu)]; exact hu')
          rw [upd_same, putK_bk fr, List.take_add_one, hy]
          unfold reB
          rw [List.map_append]
          show _ = some (HO.dK (bk (_ ++ [(z, (getB B z).getD 0)])))
          rw [hc]; rfl
        · exact fun c' o ec => by
            have nb : c' ≠ D := ne_of_none ec nD
            rw [upd_ne nb]; exact sm c' o ec
    · rintro H5 ⟨hD, sm⟩
      rw [List.length_map, List.take_length] at hD
      have s15 : Same H H5 := s14.trans (sE.trans sm)
      have nDn : n ≠ D := ne_of_none (sE n _ (s14 n _ hn)) nD
      refine ⟨.ref n, rfl, n, C, dx, [], rfl, s15 n _ hn, T.cl, T.nB, by decide, ?_⟩
      have hnb : n ≠ b := fun z => by subst z; rw [hn] at hB; cases hB
      have hna : n ≠ a := fun z => by subst z; rw [hn] at hA; cases hA
      have hB6 : (upd H5 n (.ins C dx (putF "brim_by_pond" (.ref D) []))) b = some (.dT (pt Pp)) := by rw [upd_ne (Ne.symm hnb)]; exact s15 b _ hB
      have hn6 : (upd H5 n (.ins C dx (putF "brim_by_pond" (.ref D) []))) n = some (.ins C dx (putF "brim_by_pond" (.ref D) [])) := upd_same
      have hD6 : (upd H5 n (.ins C dx (putF "brim_by_pond" (.ref D) []))) D = some (.dK (bk (reB B ys))) := by rw [upd_ne (Ne.symm nDn)]; exact hD
      have k6 : ∀ c o, H c = some o → c ≠ n → (upd H5 n (.ins C dx (putF "brim_by_pond" (.ref D) []))) c = some o := fun c o ec nc => by rw [upd_ne nc]; exact s15 c o ec
      obtain ⟨H6, hH6⟩ : ∃ H6, H6 = upd H5 n (.ins C dx (putF "brim_by_pond" (.ref D) [])) := ⟨_, rfl⟩
      rw [← hH6] at hB6 hn6 hD6 k6
      rw [← hH6]
      -- self.width_by_pair
      refine ⟨.ref b, rfl, b, _, Pp.map Prod.fst, rfl, .inl hB6, ?_, ?_, fun qs e2 pm2 srt2 hqs ne2 => ?_⟩
      · unfold pt
        rw [List.map_map, List.map_map]; rfl
      · rw [List.length_map]; have := wf.lp; omega
      have ndq : (qs.map (·.2)).Nodup := pm2.nodup_iff.mpr wf.np
      have ql : qs.length = Pp.length := by
        have := pm2.length_eq
        simpa using this
      have sF := same_new (o := .lst (qs.map fun q => V.ref q.1)) ne2
      refine ⟨e2, rfl, ⟨_, SqL.of upd_same⟩, fun D2 nD2 => ?_⟩
      refine Rl.gc_it (b0 := fun _ => .dT []) (walk_list (K := K) (a := e2) (xs := qs.map fun q => V.ref q.1)) (fun i H7 => H7 D2 = some (.dT (pt (reP Pp ((qs.map (·.2)).take i)))) ∧ Same (upd H6 e2 (.lst (qs.map fun q => V.ref q.1))) H7) ⟨upd_same, same_new nD2⟩ (fun i H7 _ h => SqL.of (h.2 e2 _ upd_same)) ?_ ?_
      · rintro i x H7 H7' hi ⟨hD2, sm2⟩ ⟨rfl, hx⟩
        rw [List.getElem?_map] at hx
        cases hy : qs[i]? with
        | none => rw [hy] at hx; cases hx
        | some z =>
          rw [hy] at hx
          have hx' : V.ref z.1 = x := Option.some.inj hx
          subst hx'
          have hzt := sm2 z.1 _ (sF z.1 _ (hqs z (List.mem_of_getElem? hy)))
          have hy2 : (qs.map (·.2))[i]? = some z.2 := by rw [List.getElem?_map, hy]; rfl
          obtain ⟨p, hp, ez⟩ := List.mem_map.mp (pm2.mem_iff.mp (List.mem_of_getElem? hy2))
          have gz : getP Pp z.2 = some p.2 := getP_of_mem wf.np (by rw [← (show p.1 = z.2 from ez)]; exact hp)
          refine ⟨z.1, [.str z.2.1, .str z.2.2], rfl, SqT.of hzt, rfl, .str z.2.1, [.str z.2.2], rfl, .str z.2.2, [], rfl, rfl, rfl, ?_⟩
          refine ⟨.str z.2.1, rfl, .str z.2.2, rfl, (by show 2 ≤ sizeLine; decide), fun t1 nt1 => ?_⟩
          have n1D : t1 ≠ D2 := Ne.symm (ne_of_none hD2 nt1)
          refine ⟨.ref b, rfl, .str z.2.1, rfl, .str z.2.2, rfl, (by show 2 ≤ sizeLine; decide), fun t2 nt2 => ?_⟩
          have n2D : t2 ≠ D2 := Ne.symm (ne_of_none (show (upd H7' t1 (.tup [.str z.2.1, .str z.2.2])) D2 = _ by rw [upd_ne (Ne.symm n1D)]; exact hD2) nt2)
          have n12 : t1 ≠ t2 := ne_of_none (o := .tup [.str z.2.1, .str z.2.2]) upd_same nt2
          have sT := (same_new (o := .tup [.str z.2.1, .str z.2.2]) nt1).trans (same_new (o := .tup [.str z.2.1, .str z.2.2]) nt2)
          refine ⟨b, .int p.2, rfl, .inr ⟨_, Rl.pk z.2, t2, .inl (sT b _ (sm2 b _ (sF b _ hB6))), rfl, upd_same, by rw [valV_pt, gz]; rfl⟩, _, DPut.t (k := Rl.pk z.2) (sT D2 _ hD2) (by rw [upd_ne n12, upd_same]; rfl) ?_, ?_, ?_⟩
          · rw [pt_len]
            unfold reP
            rw [List.length_map, List.length_take, List.length_map]
            have := wf.lp
            exact small1000 (by omega)
          · have fr : z.2 ∉ (reP Pp ((qs.map (·.2)).take i)).map Prod.fst := by
              unfold reP
              rw [List.map_map]
              intro m
              obtain ⟨u, hu', eu⟩ := List.mem_map.mp m
              exact take_nd ndq hy2 (by rw [← (show u = z.2 from eu)]; exact hu')
            rw [upd_same, putK_pt fr, List.take_add_one, hy2]
            unfold reP
            rw [List.map_append]
            show _ = some (HO.dT (pt (_ ++ [(z.2, (getP Pp z.2).getD 0)])))
            rw [gz]; rfl
          · exact fun c' o ec => by
              have nb : c' ≠ D2 := ne_of_none ec nD2
              rw [upd_ne nb]; exact sT c' o (sm2 c' o ec)
      · rintro H7 ⟨hD2, sm2⟩
        rw [List.length_map, show qs.length = (qs.map (·.2)).length from (List.length_map _).symm, List.take_length] at hD2
        have s67 : Same H6 H7 := sF.trans sm2
        have nD2n : n ≠ D2 := ne_of_none (sF n _ hn6) nD2
        have hnD' : n ≠ D := nDn
        refine ⟨.ref n, rfl, n, C, dx, _, rfl, s67 n _ hn6, T.cl, T.nW, (by show 1 < 1000; decide), ?_⟩
        have eP : (reP Pp (qs.map (·.2))).map Prod.fst = qs.map (·.2) := by
          unfold reP
          rw [List.map_map]
          exact List.map_id' _
        have eB : nms (reB B ys) = ys := by
          unfold nms reB
          rw [List.map_map]
          exact List.map_id' _
        have s17 : ∀ c o, H c = some o → c ≠ n → H7 c = some o := fun c o ec nc => s67 c o (k6 c o ec nc)
        have gd2 : Good (reB B ys) (reP Pp (qs.map (·.2))) := good.perm (reB_perm wf.nb pm).symm (reP_perm wf.np pm2).symm
        have wf2 := gd2.wf
        -- what stands behind the second store
        obtain ⟨H8, hH8⟩ : ∃ H8, H8 = upd H7 n (.ins C dx (putF "width_by_pair" (.ref D2) (putF "brim_by_pond" (.ref D) []))) := ⟨_, rfl⟩
        have hn8 : H8 n = some (.ins C dx (putF "width_by_pair" (.ref D2) (putF "brim_by_pond" (.ref D) []))) := by rw [hH8, upd_same]
        have hD8 : H8 D = some (.dK (bk (reB B ys))) := by rw [hH8, upd_ne (Ne.symm nDn)]; exact s67 D _ hD6
        have hW8 : H8 D2 = some (.dT (pt (reP Pp (qs.map (·.2))))) := by rw [hH8, upd_ne (Ne.symm nD2n)]; exact hD2
        have k8 : ∀ c o, H c = some o → c ≠ n → H8 c = some o := fun c o ec nc => by rw [hH8, upd_ne nc]; exact s17 c o ec nc
        rw [← hH8]
        -- self.outs_by_pond
        refine ⟨D, _, hD8, trivial, fun od => ?_⟩
        have nDn8 : n ≠ D := nDn
        have hn9 : (upd H8 D (.frz od (.dK (bk (reB B ys))))) n = some (.ins C dx (putF "width_by_pair" (.ref D2) (putF "brim_by_pond" (.ref D) []))) := by rw [upd_ne nDn8]; exact hn8
        have nDW : D2 ≠ D := fun z => by subst z; rw [hD8] at hW8; cases hW8
        have hW9 : (upd H8 D (.frz od (.dK (bk (reB B ys))))) D2 = some (.dT (pt (reP Pp (qs.map (·.2))))) := by rw [upd_ne nDW]; exact hW8
        refine ⟨.ref n, rfl, n, C, dx, _, _, rfl, hn9, T.cl, T.nB, f2_b D D2, D, od, rfl, .inl ⟨_, upd_same, fun D3 nD3 => ?_⟩⟩
        have d3D : D3 ≠ D := fun e => by subst e; rw [upd_same] at nD3; cases nD3
        have nD38 : H8 D3 = none := by rw [upd_ne d3D] at nD3; exact nD3
        refine side_dc (g := outsOf (reP Pp (qs.map (·.2)))) wf2.nb wf2.lb upd_same nD3 (fun z => rfl) (fun z => rfl) (fun z Ha R mz sa h => ?_) (fun Ha Sa sa => ?_)
        · exact ⟨.ref n, rfl, n, C, dx, _, _, rfl, sa n _ hn9, T.cl, T.nW, f2_w D D2, .str z, rfl, D2, _, z, rfl, sa D2 _ hW9, wf2.np, wf2.lp, h⟩
        obtain ⟨l1, sb⟩ := same_lock hD8 sa
        refine ⟨l1, ?_⟩
        have Sb := Sa.unlock l1
        obtain ⟨Hb, hHb⟩ : ∃ Hb, Hb = upd Ha D (.dK (bk (reB B ys))) := ⟨_, rfl⟩
        rw [← hHb] at sb Sb
        rw [← hHb]
        refine ⟨.ref n, rfl, n, C, dx, _, rfl, sb n _ hn8, T.cl, T.nO, (by show 2 < 1000; decide), ?_⟩
        obtain ⟨Hc, hHc⟩ : ∃ Hc, Hc = upd Hb n (.ins C dx (putF "outs_by_pond" (.ref D3) (putF "width_by_pair" (.ref D2) (putF "brim_by_pond" (.ref D) [])))) := ⟨_, rfl⟩
        have nn3 : n ≠ D3 := ne_of_none hn8 nD38
        have hnc : Hc n = some (.ins C dx (putF "outs_by_pond" (.ref D3) (putF "width_by_pair" (.ref D2) (putF "brim_by_pond" (.ref D) [])))) := by rw [hHc, upd_same]
        have keepC : ∀ {b : Addr} {o : HO}, Hb b = some o → (∀ fs, o ≠ .ins C dx fs) → Hc b = some o := fun {b o} e no => by
          rw [hHc, upd_ne (fun z => by rw [z, sb n _ hn8] at e; exact no _ (Option.some.inj e).symm)]; exact e
        have hDc : Hc D = some (.dK (bk (reB B ys))) := keepC (sb D _ hD8) (fun v e => by cases e)
        have hWc : Hc D2 = some (.dT (pt (reP Pp (qs.map (·.2))))) := keepC (sb D2 _ hW8) (fun v e => by cases e)
        have Sc : SideAt Hc D3 (outsOf (reP Pp (qs.map (·.2)))) (nms (reB B ys)) := by
          obtain ⟨ls, e1, _⟩ := id Sb
          exact Sb.keep (fun x e => by rw [e1] at e; cases e; exact keepC e1 (fun v e => by cases e)) (fun b oq xs e => keepC e (fun v e => by cases e)) (fun b xs e => keepC e (fun v e => by cases e))
        have kc : ∀ c o, H c = some o → c ≠ n → Hc c = some o := fun c o ec nc => by rw [hHc, upd_ne nc]; exact sb c o (k8 c o ec nc)
        rw [← hHc]
        -- self.ins_by_pond
        refine ⟨D, _, hDc, trivial, fun od2 => ?_⟩
        have hnd : (upd Hc D (.frz od2 (.dK (bk (reB B ys))))) n = some (.ins C dx (putF "outs_by_pond" (.ref D3) (putF "width_by_pair" (.ref D2) (putF "brim_by_pond" (.ref D) [])))) := by rw [upd_ne nDn8]; exact hnc
        have hWd : (upd Hc D (.frz od2 (.dK (bk (reB B ys))))) D2 = some (.dT (pt (reP Pp (qs.map (·.2))))) := by rw [upd_ne nDW]; exact hWc
        refine ⟨.ref n, rfl, n, C, dx, _, _, rfl, hnd, T.cl, T.nB, f3_b D D2 D3, D, od2, rfl, .inl ⟨_, upd_same, fun D4 nD4 => ?_⟩⟩
        have d4D : D4 ≠ D := fun e => by subst e; rw [upd_same] at nD4; cases nD4
        have nD4c : Hc D4 = none := by rw [upd_ne d4D] at nD4; exact nD4
        refine side_dc (g := insOf (reP Pp (qs.map (·.2)))) wf2.nb wf2.lb upd_same nD4 (fun z => rfl) (fun z => rfl) (fun z Hd R mz sd h => ?_) (fun Hd Sd sd => ?_)
        · exact ⟨.ref n, rfl, n, C, dx, _, _, rfl, sd n _ hnd, T.cl, T.nW, f3_w D D2 D3, .str z, rfl, D2, _, z, rfl, sd D2 _ hWd, wf2.np, wf2.lp, h⟩
        obtain ⟨l2, se⟩ := same_lock hDc sd
        refine ⟨l2, ?_⟩
        have Se := Sd.unlock l2
        obtain ⟨He, hHe⟩ : ∃ He, He = upd Hd D (.dK (bk (reB B ys))) := ⟨_, rfl⟩
        rw [← hHe] at se Se
        rw [← hHe]
        refine ⟨.ref n, rfl, n, C, dx, _, rfl, se n _ hnc, T.cl, T.nI, (by show 3 < 1000; decide), ?_⟩
        have keepF : ∀ {b : Addr} {o : HO}, He b = some o → (∀ fs, o ≠ .ins C dx fs) → (upd He n (.ins C dx (nf D ⟨D2, D3, D4⟩))) b = some o := fun {b o} e no => by
          rw [upd_ne (fun z => by rw [z, se n _ hnc] at e; exact no _ (Option.some.inj e).symm)]; exact e
        have fin : ∀ {d : Addr} {g : Str → List (Str × Int)} {l : List Str}, SideAt He d g l → SideAt (upd He n (.ins C dx (nf D ⟨D2, D3, D4⟩))) d g l := fun {d g l} S => by
          obtain ⟨ls, e1, _⟩ := id S
          exact S.keep (fun x e => by rw [e1] at e; cases e; exact keepF e1 (fun v e => by cases e)) (fun b oq xs e => keepF e (fun v e => by cases e)) (fun b xs e => keepF e (fun v e => by cases e))
        have newc : ∀ {d : Addr}, Hc d = none → H d = none := fun {d} e => by
          cases eh : H d with
          | none => rfl
          | some o =>
            by_cases en : d = n
            · rw [en, hnc] at e; cases e
            · rw [kc d o eh en] at e; cases e
        have new8 : ∀ {d : Addr}, H8 d = none → H d = none := fun {d} e => by
          cases eh : H d with
          | none => rfl
          | some o =>
            by_cases en : d = n
            · rw [en, hn8] at e; cases e
            · rw [k8 d o eh en] at e; cases e
        refine q (upd He n (.ins C dx (nf D ⟨D2, D3, D4⟩))) (reB B ys) (reP Pp (qs.map (·.2))) ⟨dx, D, ⟨D2, D3, D4⟩, upd_same, keepF (se D _ hDc) (fun v e => by cases e), keepF (se D2 _ hWc) (fun v e => by cases e), fin (Sc.same se), fin Se⟩
          (reB_perm wf.nb pm) (reP_perm wf.np pm2) (by rw [eB]; exact srt) (by rw [eP]; exact srt2) ⟨dx, D, ⟨D2, D3, D4⟩, upd_same, (s14.trans sE).free nD, new8 nD38, newc nD4c⟩ (fun c o ec nc => ?_)
        rw [upd_ne nc]; exact se c o (kc c o ec nc)
end
end Nl
end
section
set_option maxHeartbeats 1000000
namespace Nl
open PySem PySem.Spec PyProof.Rows L2 Nt
theorem no_attr {d1 : Addr} {d2 : Dd} {m : Str} (h1 : ¬ m = "width_by_pair" := by decide +kernel) (h2 : ¬ m = "brim_by_pond" := by decide +kernel) (h3 : ¬ m = "outs_by_pond" := by decide +kernel) (h4 : ¬ m = "ins_by_pond" := by decide +kernel) : (nf d1 d2).lookup m = none := nf_no d1 d2 h1 h2 h3 h4
theorem SideAt.val {H : Hp} {d : Addr} {g : Str → List (Str × Int)} {l : List Str} {z : Str} (h : SideAt H d g l) (nd : l.Nodup) (mz : z ∈ l) : ∃ kvs p as od, H d = some (.dK kvs) ∧ valV kvs (Sum.inr z) = some (.ref p) ∧ H p = some (.frz od (.lst (as.map V.ref))) ∧ PairsAt H as (g z) := by
  obtain ⟨ls, a, b, c⟩ := h
  rw [← b] at mz nd
  obtain ⟨p, hp, e⟩ := List.mem_map.mp mz
  have e' : p.1 = z := e
  subst e'
  obtain ⟨as, od, e1, e2⟩ := c p hp
  refine ⟨_, p.2, as, od, a, ?_, e1, e2⟩
  clear a b c e1 e2 e mz
  unfold valV
  induction ls with
  | nil => exact (List.not_mem_nil hp).elim
  | cons x r ih =>
    rw [List.map_cons, List.nodup_cons] at nd
    rw [List.map_cons, List.find?_cons]
    rcases List.mem_cons.mp hp with rfl | hp
    · rw [show decide (((Sum.inr p.1 : Key), V.ref p.2).1 = Sum.inr p.1) = true from decide_eq_true rfl]; rfl
    · have : x.1 ≠ p.1 := fun e => nd.1 (by rw [e]; exact List.mem_map.mpr ⟨p, hp, rfl⟩)
      rw [show decide (((Sum.inr x.1 : Key), V.ref x.2).1 = Sum.inr p.1) = false from decide_eq_false (fun e => this (Sum.inr.inj e))]
      exact ih nd.2 hp
section
variable {P : Program} {w : World} {K : PySem.W.Frag} {mg : Str → Option Value} {base : Heap}
theorem scHas : FnScope ["self", "thing"] ["self", "thing"] (defScope mNet_has_pond) := ⟨rfl, rfl, rfl, by decide +kernel, rfl, by decide +kernel, by decide +kernel⟩
structure NetRd (C : Addr) (H : Hp) (n : Addr) (B : Br) : Prop where
  at_ : ∃ dx d1 d2, H n = some (.ins C dx (nf d1 d2)) ∧ Rd H d1 (.dK (bk B))
theorem NetAt.rd {C : Addr} {H : Hp} {n : Addr} {B : Br} {Pp : Pi} (h : NetAt C H n B Pp) : NetRd C H n B := by
  obtain ⟨dx, d1, d2, a, b, _⟩ := h
  exact ⟨dx, d1, d2, a, .inl b⟩
def spHas (C : Addr) : Sp := fun vs H Q _ => ∃ (n : Addr) (B : Br) (z : Str), vs = [.ref n, .str z] ∧ NetRd C H n B ∧ Sm 25 z ∧ ∀ H', Same H H' → Q (.bl (nameB z && decide (z ∈ nms B))) H'
theorem ok_has {f C f1 : Addr} {fd fd1 : FuncData} (F : Fun K "has_pond" "Net.has_pond" mNet_has_pond f fd) (T : TxN K mg C)
    (F1 : Fun K "is_pond_of" "is_pond_of" sPondOf f1 fd1) (G1 : FnOk P w K mg base CX0 2 f1 fd1 ["brims", "thing"] spPondOf) (b1 : Binds K fd1 ["brims", "thing"] []) (g1 : mg "is_pond_of" = some (.ref f1)) :
    FnOk P w K mg base CX0 3 f fd ["self", "thing"] (spHas C) := by
  refine F.ok scHas (fun vs H Q E h => ?_) (fun cdv A outer s H vs Q E hr h => ?_)
  · obtain ⟨n, B, z, rfl, _⟩ := h
    rfl
  · obtain ⟨n, B, z, rfl, ⟨dx, d1, d2, hn, h1⟩, hz, q⟩ := h
    refine ⟨_, pss_one (ps_ret (pe_call G1 hr (by rfl) g1 F1.kp b1 .nil pass0 (pa_cons (pe_fld (pv 0) rfl) (pa_cons (pv 1) pa_nil)))), ?_⟩
    exact ⟨.ref n, rfl, n, C, dx, _, _, rfl, hn, T.cl, T.nB, nf_b d1 d2, .str z, rfl, d1, B, z, rfl, h1, hz, q⟩
theorem scChk : FnScope ["self", "thing"] ["self", "thing"] (defScope mNet_check_pond) := ⟨rfl, rfl, rfl, by decide +kernel, rfl, by decide +kernel, by decide +kernel⟩
def spChk (C : Addr) : Sp := fun vs H Q _ => ∃ (n : Addr) (B : Br) (Pp : Pi) (z : Str), vs = [.ref n, .str z] ∧ NetAt C H n B Pp ∧ Nm z ∧ z ∈ nms B ∧ ∀ H', Same H H' → Q .non H'
theorem ok_chk {f C f1 : Addr} {fd fd1 : FuncData} (F : Fun K "check_pond" "Net.check_pond" mNet_check_pond f fd) (T : TxN K mg C)
    (m1 : Meth K C "has_pond" f1) (G1 : FnOk P w K mg base CX0 3 f1 fd1 ["self", "thing"] (spHas C)) (b1 : Binds K fd1 ["self", "thing"] []) : FnOk P w K mg base CX0 4 f fd ["self", "thing"] (spChk C) := by
  refine F.ok scChk (fun vs H Q E h => ?_) (fun cdv A outer s H vs Q E hr h => ?_)
  · obtain ⟨n, B, Pp, z, rfl, _⟩ := h
    rfl
  · obtain ⟨n, B, Pp, z, rfl, N, nz, mz, q⟩ := h
    obtain ⟨dx, d1, d2, hn, h1, h2⟩ := N.at_
    refine ⟨_, pss_one (ps_if (pt_not (pt_val (pe_meth (pv 0) T.cl m1 G1 hr b1 .nil pass0 (pa_cons (pv 1) pa_nil)))) (pss_one ps_never) pss_nil), ?_⟩
    refine ⟨.ref n, rfl, n, dx, _, rfl, hn, no_attr, .str z, rfl, n, B, z, rfl, N.rd, nz.sm.mono (by decide), fun H1 s1 => ?_⟩
    rw [show nameB z = true from nz, decide_eq_true mz]
    exact ⟨true, rfl, iteF (q H1 s1)⟩
theorem scPonds : FnScope ["self"] ["self"] (defScope mNet_ponds) := ⟨rfl, rfl, rfl, by decide +kernel, rfl, by decide +kernel, by decide +kernel⟩
def spPonds (C : Addr) : Sp := fun vs H Q _ => ∃ (n : Addr) (B : Br) (Pp : Pi), vs = [.ref n] ∧ NetAt C H n B Pp ∧ ∀ p, H p = none → Q (.ref p) (upd H p (.lst ((nms B).map V.str)))
theorem ok_ponds {f C : Addr} {fd : FuncData} {k : Nat} (F : Fun K "ponds" "Net.ponds" mNet_ponds f fd) (T : TxN K mg C) (ml : mg "list" = none) : FnOk P w K mg base CX0 (k + 1) f fd ["self"] (spPonds C) := by
  refine F.ok scPonds (fun vs H Q E h => ?_) (fun cdv A outer s H vs Q E hr h => ?_)
  · obtain ⟨n, B, Pp, rfl, _⟩ := h
    rfl
  · obtain ⟨n, B, Pp, rfl, ⟨dx, d1, d2, hn, h1, h2⟩, q⟩ := h
    refine ⟨_, pss_one (ps_ret (pe_callTy (call_listD rfl) (by rfl) ml (by decide +kernel) (pa_cons (pe_fld (pv 0) rfl) pa_nil))), ?_⟩
    refine ⟨.ref n, rfl, n, C, dx, _, _, rfl, hn, T.cl, T.nB, nf_b d1 d2, d1, _, rfl, .inl h1, fun p np => ?_⟩
    have := q p np
    unfold nms at this
    unfold bk
    rw [List.map_map] at this ⊢
    exact this
theorem scBrim : FnScope ["self", "name"] ["self", "name"] (defScope mNet_brim) := ⟨rfl, rfl, rfl, by decide +kernel, rfl, by decide +kernel, by decide +kernel⟩
def spBrim (C : Addr) : Sp := fun vs H Q _ => ∃ (n : Addr) (B : Br) (Pp : Pi) (z : Str) (c : Int), vs = [.ref n, .str z] ∧ NetAt C H n B Pp ∧ Nm z ∧ getB B z = some c ∧ ∀ H', Same H H' → Q (.int c) H'
theorem ok_brim {f C f1 : Addr} {fd fd1 : FuncData} (F : Fun K "brim" "Net.brim" mNet_brim f fd) (T : TxN K mg C) (m1 : Meth K C "check_pond" f1) (G1 : FnOk P w K mg base CX0 4 f1 fd1 ["self", "thing"] (spChk C)) (b1 : Binds K fd1 ["self", "thing"] []) :
    FnOk P w K mg base CX0 5 f fd ["self", "name"] (spBrim C) := by
  refine F.ok scBrim (fun vs H Q E h => ?_) (fun cdv A outer s H vs Q E hr h => ?_)
  · obtain ⟨n, B, Pp, z, c, rfl, _⟩ := h
    rfl
  · obtain ⟨n, B, Pp, z, c, rfl, N, nz, gz, q⟩ := h
    obtain ⟨dx, d1, d2, hn, h1, h2⟩ := N.at_
    have mz : z ∈ nms B := List.mem_map.mpr ⟨_, getB_mem gz, rfl⟩
    refine ⟨_, pss_cons (ps_expr (pe_meth (pv 0) T.cl m1 G1 hr b1 .nil pass0 (pa_cons (pv 1) pa_nil))) (pss_one (ps_ret (pe_dget (hu_of hr) (pe_fld (pv 0) rfl) (pv 1) (fun _ _ => rfl)))), ?_⟩
    refine ⟨.ref n, rfl, n, dx, _, rfl, hn, no_attr, .str z, rfl, n, B, Pp, z, rfl, N, nz, mz, fun H1 s1 => ?_⟩
    exact ⟨.ref n, rfl, n, C, dx, _, _, rfl, s1 n _ hn, T.cl, T.nB, nf_b d1 d2, .str z, rfl, d1, .int c, rfl, .inl ⟨_, Sum.inr z, .inl (s1 d1 _ h1), rfl, by rw [valV_bk, gz]; rfl⟩, q H1 s1⟩
theorem scBrims : FnScope ["self", "name"] ["self"] (defScope mNet_brims) := ⟨rfl, rfl, rfl, by decide +kernel, rfl, by decide +kernel, by decide +kernel⟩
def spBrims (C : Addr) : Sp := fun vs H Q _ => ∃ (n : Addr) (B : Br) (Pp : Pi), vs = [.ref n] ∧ NetAt C H n B Pp ∧ Good B Pp ∧ ∀ H' p, Same H H' → H p = none → H' p = some (.dK (bk B)) → Q (.ref p) H'
theorem ok_brims {f C : Addr} {fd : FuncData} {k : Nat} (F : Fun K "brims" "Net.brims" mNet_brims f fd) (T : TxN K mg C) : FnOk P w K mg base CX0 (k + 1) f fd ["self"] (spBrims C) := by
  refine F.ok scBrims (fun vs H Q E h => ?_) (fun cdv A outer s H vs Q E hr h => ?_)
  · obtain ⟨n, B, Pp, rfl, _⟩ := h
    rfl
  · obtain ⟨n, B, Pp, rfl, N, good, q⟩ := h
    obtain ⟨dx, d1, d2, hn, h1, h2⟩ := N.at_
    have wf := good.wf
    refine ⟨_, pss_one (ps_ret (pe_lock (Rl.pe_dcP (T := .dK []) (own := [("name", 1)]) (g := gName 1) (tt := tYes) (tk := tVar 1) (tv := tDGet (tFld K (tVar 0) "brim_by_pond") (tVar 1)) (.inr rfl) hr rfl scBrims.nd (pi_keys (pe_fld (pv 0) rfl))
      (blkOk_by (N := ["self", "name"]) (sc := defScope mNet_brims) (by decide +kernel)) (fun _ _ _ _ _ => pg_name (i := 1) scBrims.nd rfl (Or.inl rfl)) (fun _ _ _ _ _ => pts_nil)
      (fun _ _ _ _ _ => pv 1) (fun _ _ _ _ _ => pe_dget (hu_of hr) (pe_fld (pv 0) rfl) (pv 1) (fun _ _ => rfl))))), ?_⟩
    have nd1 : n ≠ d1 := fun e => by subst e; rw [hn] at h1; cases h1
    refine ⟨d1, _, h1, trivial, fun od => ?_⟩
    refine ⟨.ref n, rfl, n, C, dx, _, _, rfl, (by rw [upd_ne nd1]; exact hn), T.cl, T.nB, nf_b d1 d2, d1, od, rfl, .inl ⟨_, upd_same, fun D nD => ?_⟩⟩
    have hDd : D ≠ d1 := fun e => by subst e; rw [upd_same] at nD; cases nD
    have nDH : H D = none := by rw [upd_ne hDd] at nD; exact nD
    refine Rl.gc_it (n := (bk B).length) (b0 := fun _ => .dK []) walk_keys (fun i H2 => H2 D = some (.dK (bk (B.take i))) ∧ Same (upd H d1 (.frz od (.dK (bk B)))) H2) ⟨upd_same, same_new nD⟩ (fun i H2 _ h => h.2 d1 _ upd_same) ?_ ?_
    · rintro i x H2 H2' hi ⟨hD, sm⟩ ⟨rfl, kk, v, hkv, rfl⟩
      obtain ⟨p, hp, rfl, rfl⟩ := bk_at hkv
      have hm := List.mem_of_getElem? hp
      refine ⟨rfl, .str p.1, rfl, .ref n, rfl, n, C, dx, _, _, rfl, sm n _ (by rw [upd_ne nd1]; exact hn), T.cl, T.nB, nf_b d1 d2, .str p.1, rfl, d1, .int p.2, rfl, .inl ⟨_, Sum.inr p.1, .inr ⟨od, sm d1 _ upd_same⟩, rfl, ?_⟩, _, DPut.k (k := Sum.inr p.1) hD ?_, ?_, ?_⟩
      · rw [valV_bk, getB_of_mem wf.nb hm]; rfl
      · rw [bk_len, List.length_take]; have := wf.lb; exact small1000 (by omega)
      · have fr : p.1 ∉ nms (B.take i) := by
          have h3 : (nms B)[i]? = some p.1 := by unfold nms; rw [List.getElem?_map, hp]; rfl
          have h4 := take_nd wf.nb h3
          unfold nms at h4 ⊢
          rw [← List.map_take] at h4; exact h4
        rw [upd_same, putK_bk fr, List.take_add_one, hp]; rfl
      · exact fun c o ec => by
          have nb : c ≠ D := ne_of_none ec nD
          rw [upd_ne nb]; exact sm c o ec
    · rintro H2 ⟨hD, sm⟩
      obtain ⟨l1, l2⟩ := same_lock h1 sm
      rw [bk_len, List.take_length] at hD
      exact ⟨l1, q _ D l2 nDH (by rw [upd_ne hDd]; exact hD)⟩
theorem scPipes : FnScope ["self", "pair"] ["self"] (defScope mNet_pipes) := ⟨rfl, rfl, rfl, by decide +kernel, rfl, by decide +kernel, by decide +kernel⟩
def spPipes (C : Addr) : Sp := fun vs H Q _ => ∃ (n : Addr) (B : Br) (Pp : Pi), vs = [.ref n] ∧ NetAt C H n B Pp ∧ Good B Pp ∧ ∀ H' p, Same H H' → H p = none → H' p = some (.dT (pt Pp)) → Q (.ref p) H'
theorem ok_pipes {f C : Addr} {fd : FuncData} {k : Nat} (F : Fun K "pipes" "Net.pipes" mNet_pipes f fd) (T : TxN K mg C) : FnOk P w K mg base CX0 (k + 1) f fd ["self"] (spPipes C) := by
  refine F.ok scPipes (fun vs H Q E h => ?_) (fun cdv A outer s H vs Q E hr h => ?_)
  · obtain ⟨n, B, Pp, rfl, _⟩ := h
    rfl
  · obtain ⟨n, B, Pp, rfl, N, good, q⟩ := h
    obtain ⟨dx, d1, ⟨d2, dO, dI⟩, hn, h1, h2, _, _⟩ := N.at_
    have wf := good.wf
    refine ⟨_, pss_one (ps_ret (pe_lock (Rl.pe_dcP (T := .dT []) (own := [("pair", 1)]) (g := gName 1) (tt := tYes) (tk := tVar 1) (tv := tDGet (tFld K (tVar 0) "width_by_pair") (tVar 1)) (.inl rfl) hr rfl scPipes.nd (pi_keys (pe_fld (pv 0) rfl))
      (blkOk_by (N := ["self", "pair"]) (sc := defScope mNet_pipes) (by decide +kernel)) (fun _ _ _ _ _ => pg_name (i := 1) scPipes.nd rfl (Or.inl rfl)) (fun _ _ _ _ _ => pts_nil)
      (fun _ _ _ _ _ => pv 1) (fun _ _ _ _ _ => pe_dget (hu_of hr) (pe_fld (pv 0) rfl) (pv 1) (fun _ _ => rfl))))), ?_⟩
    have nd2 : n ≠ d2 := fun e => by subst e; rw [hn] at h2; cases h2
    refine ⟨d2, _, h2, trivial, fun od => ?_⟩
    refine ⟨.ref n, rfl, n, C, dx, _, _, rfl, (by rw [upd_ne nd2]; exact hn), T.cl, T.nW, nf_w d1 ⟨d2, dO, dI⟩, d2, od, rfl, .inr ⟨_, upd_same, fun D nD => ?_⟩⟩
    have hDd : D ≠ d2 := fun e => by subst e; rw [upd_same] at nD; cases nD
    have nDH : H D = none := by rw [upd_ne hDd] at nD; exact nD
    refine Rl.gc_it (n := (pt Pp).length) (b0 := fun _ => .dT []) walk_keysT (fun i H2 => H2 D = some (.dT (pt (Pp.take i))) ∧ Same (upd H d2 (.frz od (.dT (pt Pp)))) H2) ⟨upd_same, same_new nD⟩ (fun i H2 _ h => h.2 d2 _ upd_same) ?_ ?_
    · rintro i x H2 H2' hi ⟨hD, sm⟩ ⟨rfl, kk, v, qq, hkv, rfl, hq⟩
      obtain ⟨p, hp, rfl, rfl⟩ := pt_at hkv
      have hm := List.mem_of_getElem? hp
      refine ⟨rfl, .ref qq, rfl, .ref n, rfl, n, C, dx, _, _, rfl, sm n _ (by rw [upd_ne nd2]; exact hn), T.cl, T.nW, nf_w d1 ⟨d2, dO, dI⟩, .ref qq, rfl, d2, .int p.2, rfl, .inr ⟨_, Rl.pk p.1, qq, .inr ⟨od, sm d2 _ upd_same⟩, rfl, hq, ?_⟩, _, DPut.t (k := Rl.pk p.1) hD hq ?_, ?_, ?_⟩
      · rw [valV_pt, getP_of_mem wf.np (show (p.1, p.2) ∈ Pp from hm)]; rfl
      · rw [pt_len, List.length_take]; have := wf.lp; exact small1000 (by omega)
      · have fr : p.1 ∉ (Pp.take i).map Prod.fst := by
          have h3 : (Pp.map Prod.fst)[i]? = some p.1 := by rw [List.getElem?_map, hp]; rfl
          have h4 := take_nd wf.np h3
          rw [← List.map_take] at h4; exact h4
        rw [upd_same, putK_pt fr, List.take_add_one, hp]; rfl
      · exact fun c o ec => by
          have nb : c ≠ D := ne_of_none ec nD
          rw [upd_ne nb]; exact sm c o ec
    · rintro H2 ⟨hD, sm⟩
      obtain ⟨l1, l2⟩ := same_lock h2 sm
      rw [pt_len, List.take_length] at hD
      exact ⟨l1, q _ D l2 nDH (by rw [upd_ne hDd]; exact hD)⟩
end
end Nl
end
section
set_option maxHeartbeats 1000000
namespace Nl
open PySem PySem.Spec PyProof.Rows L2 Nt
/-! ### stands -/
theorem s12 : ¬ (("own_net" : Str) = "poured_by_pond") := by decide +kernel
theorem s13 : ¬ (("own_net" : Str) = "count_by_pond") := by decide +kernel
theorem s23 : ¬ (("poured_by_pond" : Str) = "count_by_pond") := by decide +kernel
def sf (n d1 d2 : Addr) : List (Str × V) := putF "count_by_pond" (.ref d2) (putF "poured_by_pond" (.ref d1) (putF "own_net" (.ref n) []))
theorem sf_n (n d1 d2 : Addr) : (sf n d1 d2).lookup ("own_net" : Str) = some (.ref n) := by
  unfold sf
  rw [lookup_putF, if_neg s13, lookup_putF, if_neg s12, lookup_putF, if_pos rfl]
theorem sf_p (n d1 d2 : Addr) : (sf n d1 d2).lookup ("poured_by_pond" : Str) = some (.ref d1) := by
  unfold sf
  rw [lookup_putF, if_neg s23, lookup_putF, if_pos rfl]
theorem sf_c (n d1 d2 : Addr) : (sf n d1 d2).lookup ("count_by_pond" : Str) = some (.ref d2) := by
  unfold sf
  rw [lookup_putF, if_pos rfl]
theorem sf_no {n d1 d2 : Addr} {m : Str} (h1 : ¬ m = "count_by_pond" := by decide +kernel) (h2 : ¬ m = "poured_by_pond" := by decide +kernel) (h3 : ¬ m = "own_net" := by decide +kernel) : (sf n d1 d2).lookup m = none := by
  unfold sf
  rw [lookup_putF, if_neg h1, lookup_putF, if_neg h2, lookup_putF, if_neg h3]; rfl
structure StandAt (CS C : Addr) (H : Hp) (s : Addr) (B : Br) (Pp : Pi) (Qp Qc : Br) : Prop where
  at_ : ∃ dx n d1 d2, H s = some (.ins CS dx (sf n d1 d2)) ∧ NetAt C H n B Pp ∧ H d1 = some (.dK (bk Qp)) ∧ H d2 = some (.dK (bk Qc))
theorem StandAt.same {CS C : Addr} {H H' : Hp} {s : Addr} {B : Br} {Pp : Pi} {Qp Qc : Br} (h : StandAt CS C H s B Pp Qp Qc) (sm : Same H H') : StandAt CS C H' s B Pp Qp Qc := by
  obtain ⟨dx, n, d1, d2, a, b, c, d⟩ := h
  exact ⟨dx, n, d1, d2, sm _ _ a, b.same sm, sm _ _ c, sm _ _ d⟩
structure TxS (K : PySem.W.Frag) (mg : Str → Option Value) (CS : Addr) : Prop where
  cl : Cls K CS
  nN : NoAttr K CS "own_net"
  nP : NoAttr K CS "poured_by_pond"
  nC : NoAttr K CS "count_by_pond"
  mgC : mg "Stand" = some (.ref CS)
/-- a table that may be handed in -/
structure Tab (H : Hp) (v : V) (B Qd : Br) : Prop where
  at_ : (v = .non ∧ Qd = []) ∨ ∃ a, v = .ref a ∧ H a = some (.dK (bk Qd))
  nd : (nms Qd).Nodup
  ln : Qd.length ≤ 200
  ok : ∀ p ∈ Qd, p.1 ∈ nms B ∧ 0 ≤ p.2
theorem Tab.same {H H' : Hp} {v : V} {B Qd : Br} (h : Tab H v B Qd) (s : Same H H') : Tab H' v B Qd :=
  ⟨h.at_.imp id fun ⟨a, e, q⟩ => ⟨a, e, s _ _ q⟩, h.nd, h.ln, h.ok⟩
def val0 (Qd : Br) (x : Str) : Int := (getB Qd x).getD 0
def fill (B Qd : Br) : Br := (nms B).map fun x => (x, val0 Qd x)
theorem nms_map (l : List Str) (f : Str → Int) : nms (l.map fun x => (x, f x)) = l := by
  unfold nms
  rw [List.map_map]
  exact List.map_id' _
theorem fill_nms (B Qd : Br) : nms (fill B Qd) = nms B := nms_map _ _
theorem getB_map {l : List Str} {f : Str → Int} {x : Str} (nd : l.Nodup) (h : x ∈ l) : getB (l.map fun y => (y, f y)) x = some (f x) :=
  getB_of_mem (by rw [nms_map]; exact nd) (List.mem_map.mpr ⟨x, h, rfl⟩)
theorem cut_nil : cutV ([] : List V) none (some 1) = [] := by
  unfold cutV; simp
end Nl
end
section
set_option maxHeartbeats 1000000
namespace Nl
open PySem PySem.Spec PyProof.Rows L2 Nt
theorem getD_val (Qd : Br) (z : Str) : (((getB Qd z).map V.int).getD (.int 0)) = .int (val0 Qd z) := by
  unfold val0
  cases getB Qd z <;> rfl
def mapN (l : List Str) (f : Str → Int) : Br := l.map fun x => (x, f x)
theorem mapN_take (l : List Str) (f : Str → Int) (i : Nat) {z : Str} (h : l[i]? = some z) : mapN (l.take (i + 1)) f = mapN (l.take i) f ++ [(z, f z)] := by
  unfold mapN
  rw [List.take_add_one, h, List.map_append]; rfl
/-- a dict comprehension over the ponds' list -/
theorem ponds_dc {K : PySem.W.Frag} {l : List Str} {f : Str → Int} {e D : Addr} {H1 : Hp} {σ : L2.St} {tv : TE} {j : Nat} {Qd : Hp → Prop} (G : Hp → Prop) (hG : ∀ {H H' : Hp}, Same H H' → G H → G H') (nd : l.Nodup) (ln : l.length ≤ 12) (he : H1 e = some (.lst (l.map V.str))) (g1 : G H1) (nD : H1 D = none)
    (hj : ∀ z : Str, ((wipe σ [j]).set j (some (.str z)))[j]? = some (some (V.str z))) (hw : ∀ z : Str, wipe ((wipe σ [j]).set j (some (.str z))) [j] = wipe σ [j])
    (ht : ∀ (z : Str) (H2 : Hp) (R : V → Hp → Prop), z ∈ l → Same H1 H2 → G H2 → (∀ H3, Same H2 H3 → R (.int (f z)) H3) → tv ((wipe σ [j]).set j (some (.str z))) H2 R)
    (hd : ∀ H2, H2 D = some (.dK (bk (mapN l f))) → Same H1 H2 → Qd H2) :
    ∃ W : Nat → Nat → Hp → Prop, (∃ m, W 0 m (upd H1 D (.dK []))) ∧ ∀ i m H, W i m H →
      ((Itl K e).stop i H ∧ Qd H) ∨ ((Itl K e).go i H ∧ ∃ Nx : Hp → Prop, (∀ H', Nx H' → ∃ m', m' < m ∧ W (i + 1) m' H') ∧
        ∀ x H', (Itl K e).yld i H x H' → gName j x (wipe σ [j]) H' fun σ2 H2 => wipe σ2 [j] = wipe σ [j] ∧ tYes σ2 H2 fun b H3 => if b = true then Rl.tbD (tVar j) tv D σ2 H3 Nx else Nx H3) := by
  refine Rl.gc_it (b0 := fun _ => .dK []) (walk_list (K := K) (a := e) (xs := l.map V.str)) (fun i H2 => H2 D = some (.dK (bk (mapN (l.take i) f))) ∧ Same H1 H2) ⟨upd_same, same_new nD⟩ (fun i H2 _ h => SqL.of (h.2 e _ he)) ?_ ?_
  · rintro i x H2 H2' hi ⟨hD, sm⟩ ⟨rfl, hx⟩
    rw [List.getElem?_map] at hx
    cases hy : l[i]? with
    | none => rw [hy] at hx; cases hx
    | some z =>
      rw [hy] at hx
      have hx' : V.str z = x := Option.some.inj hx
      subst hx'
      refine ⟨hw z, ?_⟩
      show Rl.tbD (tVar j) tv D (List.set (wipe σ [j]) j (some (V.str z))) H2' fun H2 => H2 D = some (HO.dK (bk (mapN (List.take (i + 1) l) f))) ∧ Same H1 H2
      refine ⟨.str z, hj z, ht z H2' _ (List.mem_of_getElem? hy) sm (hG sm g1) fun H3 s3 => ⟨_, DPut.k (k := Sum.inr z) (s3 D _ hD) ?_, ?_, ?_⟩⟩
      · rw [bk_len]
        unfold mapN
        rw [List.length_map, List.length_take]
        exact small1000 (by omega)
      · have fr : z ∉ nms (mapN (l.take i) f) := by
          unfold mapN
          rw [nms_map]
          exact take_nd nd hy
        rw [upd_same, putK_bk fr, mapN_take l f i hy]
      · exact fun c o ec => by
          have nb : c ≠ D := ne_of_none ec nD
          rw [upd_ne nb]; exact s3 c o (sm c o ec)
  · rintro H2 ⟨hD, sm⟩
    rw [List.length_map, List.take_length] at hD
    exact hd H2 hD sm
theorem nms_len (B : Br) : (nms B).length = B.length := List.length_map _
end Nl
end
section
set_option maxHeartbeats 1000000
namespace Nl
open PySem PySem.Spec PyProof.Rows L2 Nt
/-- every pond has its number -/
structure Full (B Qd : Br) : Prop where
  nm : nms Qd = nms B
theorem fill_full (B Qd : Br) : Full B (fill B Qd) := ⟨fill_nms B Qd⟩
theorem Full.get {B Qd : Br} (h : Full B Qd) {z : Str} (m : z ∈ nms B) : getB Qd z = some (val0 Qd z) := by
  rw [← h.nm] at m
  obtain ⟨b, e⟩ := getB_some m
  unfold val0
  rw [e]; rfl
theorem val0_fill {B Qd : Br} (nd : (nms B).Nodup) {z : Str} (m : z ∈ nms B) : val0 (fill B Qd) z = val0 Qd z := by
  have := getB_map (f := val0 Qd) nd m
  unfold fill
  unfold val0 at this ⊢
  rw [this]; rfl
def waterOf (B : Br) (Pp : Pi) (Qp Qc : Br) (z : Str) : Int := val0 Qp z + ((insOf Pp z).map fun p => p.2 * val0 Qc p.1).sum - val0 B z * val0 Qc z
theorem insOf_mem {Pp : Pi} {z : Str} {p : Str × Int} (h : p ∈ insOf Pp z) : ((p.1, z), p.2) ∈ Pp := by
  unfold insOf at h
  obtain ⟨q, hq, e⟩ := List.mem_map.mp h
  obtain ⟨h1, h2⟩ := List.mem_filter.mp hq
  have h3 : q.1.2 = z := of_decide_eq_true h2
  subst e
  subst h3
  exact h1
theorem insOf_len (Pp : Pi) (z : Str) : (insOf Pp z).length ≤ Pp.length := by
  unfold insOf
  rw [List.length_map]
  exact List.length_filter_le _ _
end Nl
end
section
set_option maxHeartbeats 1000000
namespace Nl
open PySem PySem.Spec PyProof.Rows L2 Nt
end Nl
end
section
set_option maxHeartbeats 1000000
namespace Nl
open PySem PySem.Spec PyProof.Rows L2 Nt
theorem scDraw : FnScope ["_law_pot_here", "_law_many", "_law_digit"] ["_law_pot_here", "_law_many"] (defScope sDraw) :=
  ⟨rfl, rfl, rfl, by decide +kernel, rfl, by decide +kernel, by decide +kernel⟩
theorem scPot : FnScope ["_law_script", "_law_k", "_law_cell"] ["_law_script", "_law_k"] (defScope sPot) :=
  ⟨rfl, rfl, rfl, by decide +kernel, rfl, by decide +kernel, by decide +kernel⟩
/-! ### the pot -/
def PotOk (a b : Int) : Prop := 0 ≤ a ∧ 0 ≤ b ∧ b < 4294967296
def PotAt (H : Hp) (p : Addr) : Prop := ∃ a b, H p = some (.lst [.int a, .int b]) ∧ PotOk a b
theorem Kp.refl (p : Addr) (H : Hp) : Kp p H H := fun _ _ _ e => e
theorem no_pylong {i j : Int} (h0 : 0 < j) (h1 : j < 2 ^ 200) : CDivP i j := by
  refine ⟨h0, ?_⟩
  have hn : j.natAbs < 2 ^ 200 := by omega
  have hl : j.natAbs.log2 < 200 := by
    rw [Nat.log2_lt (by omega)]; exact hn
  have hd : j.natAbs.log2 / 30 ≤ 6 := by omega
  unfold Builtin.divisionGoesByPylong
  have h3 : ∀ k : Nat, 300 ≤ k → ¬ (k < j.natAbs.log2 / 30 + 1) := fun k hk => by omega
  simp only [Bool.and_eq_true, decide_eq_true_eq, Bool.and_eq_false_iff, decide_eq_false_iff_not]
  split <;> first | (left; omega) | omega | simp
theorem PotAt.new {H : Hp} {p q : Addr} {o : HO} (h : PotAt H p) (n : H q = none) : PotAt (upd H q o) p := by
  obtain ⟨a, b, hp, hab⟩ := h
  exact ⟨a, b, by rw [upd_ne (ne_of_none hp n)]; exact hp, hab⟩
theorem PotAt.ne {H : Hp} {p q : Addr} (h : PotAt H p) (n : H q = none) : q ≠ p := by
  obtain ⟨a, b, hp, hab⟩ := h
  exact Ne.symm (ne_of_none hp n)
theorem PotAt.put {H : Hp} {p q : Addr} {o : HO} (h : PotAt H p) (n : q ≠ p) : PotAt (upd H q o) p := by
  obtain ⟨a, b, hp, hab⟩ := h
  exact ⟨a, b, by rw [upd_ne (Ne.symm n)]; exact hp, hab⟩
section
variable {P : Program} {w : World} {K : PySem.W.Frag} {mg : Str → Option Value} {base : Heap}
/-! ### draw -/
def spDraw : Sp := fun vs H Q _ => ∃ (p : Addr) (m : Int), vs = [.ref p, .int m] ∧ PotAt H p ∧ 0 < m ∧ m < 2 ^ 200 ∧
  ∀ d H', Kp p H H' → PotAt H' p → 0 ≤ d → d < m → Q (.int d) H'
theorem ok_draw {f : Addr} {fd : FuncData} {k : Nat} (F : Fun K "_law_draw" "_law_draw" sDraw f fd) (md : mg "divmod" = none) :
    FnOk P w K mg base CX0 (k + 1) f fd ["_law_pot_here", "_law_many"] spDraw := by
  refine F.ok scDraw (fun vs H Q E h => ?_) (fun cdv A outer s H vs Q E hr h => ?_)
  · obtain ⟨p, m, rfl, _⟩ := h
    rfl
  · obtain ⟨p, m, rfl, ⟨a, b, hp, ha, hb, hb2⟩, m0, m1, q⟩ := h
    refine ⟨_, pss_cons (ps_if (pt_cmpR op_gt (pe_ix ix_list (pv 0) pe_int (fun _ _ => rfl)) pe_int (nomark _))
        (pss_cons (ps_asg (pe_callB call_divmodW (by rfl) md (by decide +kernel) (pa_cons (pe_ix ix_list (pv 0) pe_int (fun _ _ => rfl)) (pa_cons (pv 1) pa_nil)))
            (pg_tup rfl (pgs_cons (pg_sub (pv 0) pe_int set_list) (pgs_cons (pg_name (i := 2) scDraw.nd rfl (.inl rfl)) pgs_nil))))
          (pss_one (ps_ret (pv 2)))) pss_nil)
      (pss_cons (ps_asg (pe_op op_mod (pe_op op_add (pe_op op_mul (pe_ix ix_list (pv 0) pe_int (fun _ _ => rfl)) pe_int) pe_int) pe_int) (pg_sub (pv 0) pe_int set_list))
      (pss_one (ps_ret (pe_op op_mod (pe_op op_fdiv (pe_op op_mod (pe_op op_mul (pe_ix ix_list (pv 0) pe_int (fun _ _ => rfl)) (pe_ix ix_list (pv 0) pe_int (fun _ _ => rfl))) pe_int) pe_int) (pv 1))))), ?_⟩
    have i0 : atI [V.int a, V.int b] 0 = some (.int a) := atI_nat (j := 0) rfl
    have i1 : atI [V.int a, V.int b] 1 = some (.int b) := atI_nat (j := 1) rfl
    refine ⟨.ref p, rfl, p, _, 0, _, rfl, rfl, SqL.of hp, i0, _, _, rfl, rfl, _, rfl, ite2 (fun e => ?_) (fun e => ?_)⟩
    · -- pot[0], digit = divmod(pot[0], many)
      refine ⟨.ref p, rfl, p, _, 0, _, rfl, rfl, SqL.of hp, i0, .int m, rfl, a, m, rfl, no_pylong m0 m1, fun T nT => ?_⟩
      have nTp : p ≠ T := ne_of_none hp nT
      have hp1 : (upd H T (.tup [.int (a / m), .int (a % m)])) p = some (.lst [.int a, .int b]) := by rw [upd_ne nTp]; exact hp
      refine ⟨T, [.int (a / m), .int (a % m)], rfl, .inl (.inl upd_same), rfl, .int (a / m), [.int (a % m)], rfl, ?_⟩
      refine ⟨.ref p, rfl, p, _, 0, 0, rfl, rfl, hp1, rfl, ?_⟩
      refine ⟨.int (a % m), [], rfl, rfl, .int (a % m), rfl, ?_⟩
      refine q (a % m) _ ((Kp.new nT).trans Kp.here) ⟨a / m, b, upd_same, Int.ediv_nonneg ha (by omega), hb, hb2⟩ (Int.emod_nonneg _ (by omega)) (Int.emod_lt_of_pos _ m0)
    · refine ⟨.ref p, rfl, p, _, 1, _, rfl, rfl, SqL.of hp, i1, b, 48271, rfl, rfl, .inr ⟨by decide, by decide⟩, _, _, rfl, rfl, _, _, rfl, rfl, (by show (0 : Int) < 2147483647; decide), ?_⟩
      refine ⟨.ref p, rfl, p, _, 1, 1, rfl, rfl, hp, rfl, ?_⟩
      obtain ⟨c, hc⟩ : ∃ c, c = (b * 48271 + 20011) % 2147483647 := ⟨_, rfl⟩
      have c0 : 0 ≤ c := by rw [hc]; exact Int.emod_nonneg _ (by decide)
      have c1 : c < 2147483647 := by rw [hc]; exact Int.emod_lt_of_pos _ (by decide)
      have j1 : atI [V.int a, V.int c] 1 = some (.int c) := atI_nat (j := 1) rfl
      have hp2 : (upd H p (.lst ([V.int a, V.int b].set 1 (.int ((b * 48271 + 20011) % 2147483647))))) p = some (.lst [.int a, .int c]) := by
        rw [upd_same, ← hc]; rfl
      refine ⟨.ref p, rfl, p, _, 1, _, rfl, rfl, SqL.of hp2, j1, .ref p, rfl, p, _, 1, _, rfl, rfl, SqL.of hp2, j1, c, c, rfl, rfl, .inl ⟨by omega, by omega⟩, ?_⟩
      refine ⟨_, _, rfl, rfl, (by show (0 : Int) < 2147483629; decide), _, _, rfl, rfl, ⟨by decide, by decide⟩, .int m, rfl, _, m, rfl, rfl, m0, ?_⟩
      exact q _ _ Kp.here ⟨a, c, hp2, ha, c0, by omega⟩ (Int.emod_nonneg _ (by omega)) (Int.emod_lt_of_pos _ m0)
/-! ### pot -/
def spPot (K : PySem.W.Frag) : Sp := fun vs H Q _ => ∃ (a : Addr) (ns : List Int) (k : Int), vs = [.ref a, .int k] ∧ SqL K H a (ns.map V.int) ∧ 0 ≤ k ∧ k < 100 ∧
  ∀ H' p, Same H H' → H p = none → PotAt H' p → Q (.ref p) H'
theorem ok_pot {f : Addr} {fd : FuncData} {k : Nat} (F : Fun K "_law_pot" "_law_pot" sPot f fd) (ml : mg "len" = none) (mm : mg "max" = none) (ma : mg "abs" = none) :
    FnOk P w K mg base CX0 (k + 1) f fd ["_law_script", "_law_k"] (spPot K) := by
  refine F.ok scPot (fun vs H Q E h => ?_) (fun cdv A outer s H vs Q E hr h => ?_)
  · obtain ⟨a, ns, k, rfl, _⟩ := h
    rfl
  · obtain ⟨a, ns, k, rfl, hS, k0, k1, q⟩ := h
    refine ⟨_, pss_cons (ps_set (i := 2) scPot.nd rfl (.inl rfl) (pe_ifExp (pt_cmpR op_lt (pv 1) (pe_callB call_len_seq (by rfl) ml PySem.boot_len (pa_cons (pv 0) pa_nil)) (nomark _)) (pe_ix ix_list (pv 0) (pv 1) (fun _ _ => rfl)) pe_int))
      (pss_one (ps_ret (pe_lst (pa_cons (pe_callB (call_max2 rfl) (by rfl) mm (by decide +kernel) (pa_cons pe_int (pa_cons (pe_op op_sub (pe_callB call_abs (by rfl) ma (by decide +kernel) (pa_cons (pv 2) pa_nil)) (pe_op op_pow pe_int pe_int)) pa_nil)))
        (pa_cons (pe_op op_add (pe_op op_add (pe_op op_mod (pe_callB call_abs (by rfl) ma (by decide +kernel) (pa_cons (pv 2) pa_nil)) pe_int) (pe_op op_mul pe_int (pv 1))) pe_int) pa_nil))))), ?_⟩
    have done : ∀ n : Int, ∀ σ, σ = [some (V.ref a), some (.int k), some (.int n)] → True := fun _ _ _ => trivial
    refine ⟨.int k, rfl, .ref a, rfl, a, _, rfl, .inl hS, k, _, rfl, rfl, _, rfl, ite2 (fun e => ?_) (fun e => ?_)⟩
    · have e' : k < ((ns.map V.int).length : Int) := of_decide_eq_true e
      rw [List.length_map] at e'
      obtain ⟨j, rfl⟩ : ∃ j : Nat, k = (j : Int) := ⟨k.toNat, by omega⟩
      have hj : j < ns.length := by omega
      have g : (ns.map V.int)[j]? = some (.int ns[j]) := by
        rw [List.getElem?_map, List.getElem?_eq_getElem hj]; rfl
      refine ⟨.ref a, rfl, .int j, rfl, a, _, j, _, rfl, rfl, hS, atI_nat g, ?_⟩
      refine ⟨.int ns[j], rfl, _, rfl, 10, 18, rfl, rfl, ⟨by decide, by decide, by decide⟩, _, _, rfl, rfl, _, _, rfl, ?_⟩
      refine ⟨.int ns[j], rfl, _, rfl, _, _, rfl, rfl, (by show (0 : Int) < 2147483587; decide), .int j, rfl, 131, _, rfl, rfl, .inl ⟨by decide, by decide⟩, _, _, rfl, rfl, _, _, rfl, rfl, ?_⟩
      refine ⟨by show 2 ≤ sizeLine; decide, fun p np => ?_⟩
      refine q _ p (same_new np) np ⟨_, _, upd_same, ?_, ?_, ?_⟩
      · show (0 : Int) ≤ if _ > (0 : Int) then _ else 0
        split <;> omega
      · have := Int.emod_nonneg (if ns[j] < 0 then -ns[j] else ns[j]) (show (2147483587 : Int) ≠ 0 by decide)
        omega
      · have := Int.emod_lt_of_pos (if ns[j] < 0 then -ns[j] else ns[j]) (show (0 : Int) < 2147483587 by decide)
        omega
    · refine ⟨.int 0, rfl, _, rfl, 10, 18, rfl, rfl, ⟨by decide, by decide, by decide⟩, _, _, rfl, rfl, _, _, rfl, ?_⟩
      refine ⟨.int 0, rfl, _, rfl, _, _, rfl, rfl, (by show (0 : Int) < 2147483587; decide), .int k, rfl, 131, _, rfl, rfl, .inl ⟨by decide, by decide⟩, _, _, rfl, rfl, _, _, rfl, rfl, ?_⟩
      refine ⟨by show 2 ≤ sizeLine; decide, fun p np => ?_⟩
      refine q _ p (same_new np) np ⟨_, _, upd_same, ?_, ?_, ?_⟩
      · decide
      · show (0 : Int) ≤ 0 + 131 * k + 7
        omega
      · show (0 : Int) + 131 * k + 7 < _
        omega
end
end Nl
end
section
set_option maxHeartbeats 2000000
namespace Nl
open PySem PySem.Spec PyProof.Rows L2 Nt
theorem Sm.strOk {n : Nat} {z : Str} (h : Sm n z) : PyData.strOk z = true := by
  unfold PyData.strOk
  rw [Array.all_eq_true']
  intro c hc
  have := h.2 c (Array.mem_toList_iff.mpr hc)
  exact decide_eq_true (by omega)
theorem dp_strs {K : PySem.W.Frag} {H : Hp} : ∀ l : List Str, DpAll K H (l.map V.str) (l.map PyData.str)
  | [] => .nil
  | z :: l => .cons (.str z) (dp_strs l)
theorem lay_strs : ∀ {l : List Str}, (∀ z ∈ l, Sm 25 z) → PyData.canLayAll0 (l.map PyData.str) = true ∧ PyData.depthAll (l.map PyData.str) = 0
  | [], _ => ⟨rfl, rfl⟩
  | z :: l, h => by
    obtain ⟨h1, h2⟩ := lay_strs (l := l) fun y hy => h y (List.mem_cons_of_mem _ hy)
    constructor
    · show (PyData.canLay0 (.str z) && PyData.canLayAll0 (l.map PyData.str)) = true
      rw [h1, show PyData.canLay0 (.str z) = PyData.strOk z from by simp [PyData.canLay0], (h z List.mem_cons_self).strOk]; rfl
    · show max (PyData.depth (.str z)) (PyData.depthAll (l.map PyData.str)) = 0
      rw [h2]; simp [PyData.depth]
theorem shaped_strs {l : List Str} (h : ∀ z ∈ l, Sm 25 z) : SeqAt.shaped (.list (l.map PyData.str)) = true := by
  obtain ⟨h1, h2⟩ := lay_strs h
  unfold SeqAt.shaped
  rw [show PyData.canLay0 (.list (l.map PyData.str)) = PyData.canLayAll0 (l.map PyData.str) by simp [PyData.canLay0], h1, show PyData.depth (.list (l.map PyData.str)) = PyData.depthAll (l.map PyData.str) + 1 by simp [PyData.depth], h2]
  decide
theorem ne_nil {K : PySem.W.Frag} {H : Hp} {a e : Addr} {l : List Str} {Q : V → Hp → Prop} (ha : H a = some (.lst (l.map V.str))) (he : H e = some (.lst [])) (h : ∀ z ∈ l, Sm 25 z) (q : Q (.bl (!l.isEmpty)) H) : rNeD K (.ref a) (.ref e) H Q := by
  refine ⟨_, _, .lst (SqL.of ha) (dp_strs l), .lst (SqL.of he) .nil, shaped_strs h, by simp [SeqAt.shaped, PyData.canLay0, PyData.canLayAll0, PyData.depth, PyData.depthAll], ?_⟩
  have : PyData.eqv (.list (l.map PyData.str)) (.list []) = l.isEmpty := by
    cases l <;> simp [PyData.eqv, PyData.eqvAll]
  rw [this]
  exact q
theorem six {d : Int} {n : Nat} (h0 : 0 ≤ d) (h1 : d < n) : seqIndex? d n = some d.toNat := by
  unfold seqIndex?
  have hn : ¬ d < 0 := by omega
  simp [hn, h0, h1]
theorem erase_perm {α : Type} {l : List α} {k : Nat} {y : α} (h : l[k]? = some y) : (y :: l.eraseIdx k).Perm l := by
  induction l generalizing k with
  | nil => simp at h
  | cons x l ih =>
    cases k with
    | zero =>
      have : x = y := by simpa using h
      subst this
      exact .refl _
    | succ k =>
      have h' : l[k]? = some y := by simpa using h
      exact (List.Perm.swap x y _).trans ((ih h').cons x)
theorem erase_map {α β : Type} (f : α → β) : ∀ (l : List α) (k : Nat), (l.map f).eraseIdx k = (l.eraseIdx k).map f
  | [], _ => rfl
  | _ :: _, 0 => rfl
  | x :: l, k + 1 => by
    show f x :: (l.map f).eraseIdx k = f x :: (l.eraseIdx k).map f
    rw [erase_map f l k]
theorem sixIn {l : List V} {d : Int} (h0 : 0 ≤ d) (h1 : d < l.length) : ∃ y, l[d.toNat]? = some y ∧ y ∈ l := by
  have hj : d.toNat < l.length := by omega
  exact ⟨l[d.toNat], List.getElem?_eq_getElem hj, List.getElem_mem hj⟩
end Nl
end
section
set_option maxHeartbeats 2000000
namespace Nl
open PySem PySem.Spec PyProof.Rows L2 Nt
def lcScope (e : Expr) : Scope := match e with
  | .ListComp _ _ sc _ => sc
  | _ => { kind := .function, names := [], isGenerator := false, isCoroutine := false }
def asgV (s : Stmt) : Expr := match s with
  | .Assign _ v _ => v
  | .For _ _ (.Assign _ v _ :: _) _ _ => v
  | .Return (some v) _ => v
  | _ => .Name "x" ⟨0, 0, 0, 0⟩
def bodyAt (s : Stmt) (i : Nat) : Stmt := (defBody s).getD i (.Pass ⟨0, 0, 0, 0⟩)
/-- [E for pair in pipes if pair[c] == name] -/
def tPick (K : PySem.W.Frag) (jp jv jn : Nat) (c : Int) (te : TE) : TE := tLockE (tLc (iKeys (tVar jp)) (gName jv) (tTest (tOp rEq (tOp (rIxT K) (tVar jv) (tC (.int c))) (tVar jn))) te [jv])
theorem pick_ok {K : PySem.W.Frag} {Pp : Pi} {a : Addr} {H : Hp} {σ : L2.St} {te : TE} {jp jv jn : Nat} {c : Int} {z : Str} {Q : V → Hp → Prop} (sel : (Str × Str) × Int → Str) (val : (Str × Str) × Int → V)
    (hsel : ∀ p : (Str × Str) × Int, atI [V.str p.1.1, V.str p.1.2] c = some (.str (sel p))) (lp : Pp.length ≤ 200) (ha : H a = some (.dT (pt Pp))) (hjp : σ[jp]? = some (some (.ref a)))
    (hv : ∀ q : Addr, ((wipe σ [jv]).set jv (some (.ref q)))[jv]? = some (some (V.ref q))) (hn : ∀ q : Addr, ((wipe σ [jv]).set jv (some (.ref q)))[jn]? = some (some (V.str z)))
    (hw : ∀ q : Addr, wipe ((wipe σ [jv]).set jv (some (.ref q))) [jv] = wipe σ [jv])
    (ht : ∀ (p : (Str × Str) × Int) (q : Addr) (od : Obj) (H2 : Hp) (R : V → Hp → Prop), p ∈ Pp → Same (upd H a (.frz od (.dT (pt Pp)))) H2 → H2 q = some (.tup [.str p.1.1, .str p.1.2]) → R (val p) H2 → te ((wipe σ [jv]).set jv (some (.ref q))) H2 R)
    (q : ∀ D H', Same H H' → H D = none → H' D = some (.lst ((Pp.filter fun p => decide (sel p = z)).map val)) → Q (.ref D) H') : tPick K jp jv jn c te σ H Q := by
  refine ⟨a, _, ha, trivial, fun od => ?_⟩
  refine ⟨.ref a, hjp, a, od, rfl, .inr ⟨_, upd_same, fun D nD => ?_⟩⟩
  have hD0 : D ≠ a := fun e => by subst e; rw [upd_same] at nD; cases nD
  have nDH : H D = none := by rw [upd_ne hD0] at nD; exact nD
  refine lc_it (n := (pt Pp).length) walk_keysT (fun i H1 => H1 D = some (.lst (((Pp.take i).filter fun p => decide (sel p = z)).map val)) ∧ Same (upd H a (.frz od (.dT (pt Pp)))) H1) ⟨upd_same, same_new nD⟩ (fun i H1 _ h => h.2 a _ upd_same) ?_ ?_
  · rintro i x H1 H2 hi ⟨hD, sm⟩ ⟨rfl, kk, v, qq, hkv, rfl, hq⟩
    obtain ⟨p, hp, rfl, rfl⟩ := pt_at hkv
    have hm : p ∈ Pp := List.mem_of_getElem? hp
    refine ⟨hw qq, .ref qq, hv qq, qq, _, c, .str (sel p), rfl, rfl, SqT.of hq, hsel p, .str z, hn qq, rfl, _, rfl, ?_⟩
    rw [decStr]
    refine ite2 (fun e => ?_) (fun e => ?_)
    · refine ht p qq od H2 _ hm sm hq ⟨_, hD, ?_, ?_, ?_⟩
      · rw [List.length_map]
        refine small1000 (Nat.le_trans (List.length_filter_le _ _) ?_)
        rw [List.length_take]; omega
      · rw [upd_same, List.take_add_one, hp, List.filter_append, List.map_append]
        show _ = some (HO.lst (_ ++ List.map _ (List.filter _ [p])))
        rw [List.filter_cons, if_pos e]
        rfl
      · exact fun b o eb => by
          have nb : b ≠ D := ne_of_none eb nD
          rw [upd_ne nb]; exact sm b o eb
    · refine ⟨?_, sm⟩
      rw [hD, List.take_add_one, hp, List.filter_append, List.map_append]
      show _ = some (HO.lst (_ ++ List.map _ (List.filter _ [p])))
      rw [List.filter_cons, if_neg e]
      simp
  · rintro H1 ⟨hD, sm⟩
    obtain ⟨l1, l2⟩ := same_lock ha sm
    refine ⟨l1, q D _ l2 nDH ?_⟩
    rw [upd_ne hD0, hD, List.take_of_length_le (by unfold pt; rw [List.length_map]; exact Nat.le_refl _)]
/-- the width of a pair -/
theorem width_at {Pp : Pi} {a q : Addr} {od : Obj} {H H2 : Hp} {σ : L2.St} {jp jv : Nat} {p : (Str × Str) × Int} {R : V → Hp → Prop} (nd : (Pp.map Prod.fst).Nodup) (hm : p ∈ Pp) (sm : Same (upd H a (.frz od (.dT (pt Pp)))) H2) (hq : H2 q = some (.tup [.str p.1.1, .str p.1.2]))
    (hjp : σ[jp]? = some (some (.ref a))) (hv : σ[jv]? = some (some (.ref q))) (r : R (.int p.2) H2) : tDGet (tVar jp) (tVar jv) σ H2 R :=
  ⟨.ref a, hjp, .ref q, hv, a, .int p.2, rfl, .inr ⟨_, Rl.pk p.1, q, .inr ⟨od, sm a _ upd_same⟩, rfl, hq, by rw [valV_pt, getP_of_mem nd (show (p.1, p.2) ∈ Pp from hm)]; rfl⟩, r⟩
theorem at0 (p : (Str × Str) × Int) : atI [V.str p.1.1, V.str p.1.2] 0 = some (.str p.1.1) := atI_nat (j := 0) rfl
theorem at1 (p : (Str × Str) × Int) : atI [V.str p.1.1, V.str p.1.2] 1 = some (.str p.1.2) := atI_nat (j := 1) rfl
theorem get_bk {B : Br} {a : Addr} {H : Hp} {σ : L2.St} {jb jn : Nat} {z : Str} {c : Int} {R : V → Hp → Prop} (hb : Rd H a (.dK (bk B))) (g : getB B z = some c) (hjb : σ[jb]? = some (some (.ref a))) (hn : σ[jn]? = some (some (.str z))) (r : R (.int c) H) : tDGet (tVar jb) (tVar jn) σ H R :=
  ⟨.ref a, hjb, .str z, hn, a, .int c, rfl, .inl ⟨_, Sum.inr z, hb, rfl, by rw [valV_bk, g]; rfl⟩, r⟩
end Nl
end
section
set_option maxHeartbeats 2000000
namespace Nl
open PySem PySem.Spec PyProof.Rows L2 Nt
theorem leavesN_succ (P : Pi) : ∀ (n : Nat) (L : List Str), leavesN P (n + 1) L = leaves P (leavesN P n L)
  | 0, _ => rfl
  | n + 1, L => by
    show leavesN P (n + 1) (leaves P L) = leaves P (leavesN P n (leaves P L))
    exact leavesN_succ P n _
theorem leavesN_nodup (P : Pi) : ∀ (n : Nat) (L : List Str), L.Nodup → (leavesN P n L).Nodup
  | 0, _, h => h
  | n + 1, L, h => leavesN_nodup P n _ (h.sublist (List.filter_sublist))
theorem leavesN_len (P : Pi) (n : Nat) (L : List Str) (h : L.Nodup) : (leavesN P n L).length ≤ L.length := len_le_of_sub (leavesN_nodup P n L h) (leavesN_sub P n L)
def leafB (P : Pi) (L : List Str) (x : Str) : Bool := (P.filter fun p => decide (p.1.1 = x)).all fun p => decide (p.1.2 ∈ L)
/-- [x for x in xs if ..], xs a list of texts -/
theorem keep_lc {K : PySem.W.Frag} {l : List Str} {b : Str → Bool} {e D : Addr} {H1 : Hp} {σ : L2.St} {tt : TT} {j : Nat} {Qd : Hp → Prop} (ln : l.length ≤ 200) (he : H1 e = some (.lst (l.map V.str))) (nD : H1 D = none)
    (hj : ∀ z : Str, ((wipe σ [j]).set j (some (.str z)))[j]? = some (some (V.str z))) (hw : ∀ z : Str, wipe ((wipe σ [j]).set j (some (.str z))) [j] = wipe σ [j])
    (ht : ∀ (z : Str) (H2 : Hp) (R : Bool → Hp → Prop), z ∈ l → Same H1 H2 → (∀ H3, Same H2 H3 → R (b z) H3) → tt ((wipe σ [j]).set j (some (.str z))) H2 R)
    (hd : ∀ H2, H2 D = some (.lst ((l.filter b).map V.str)) → Same H1 H2 → Qd H2) :
    ∃ W : Nat → Nat → Hp → Prop, (∃ m, W 0 m (upd H1 D (.lst []))) ∧ ∀ i m H, W i m H →
      ((Itl K e).stop i H ∧ Qd H) ∨ ((Itl K e).go i H ∧ ∃ Nx : Hp → Prop, (∀ H', Nx H' → ∃ m', m' < m ∧ W (i + 1) m' H') ∧
        ∀ x H', (Itl K e).yld i H x H' → gName j x (wipe σ [j]) H' fun σ2 H2 => wipe σ2 [j] = wipe σ [j] ∧ tt σ2 H2 fun b H3 => if b = true then tVar j σ2 H3 fun y H4 => ∃ acc, H4 D = some (.lst acc) ∧ acc.length < sizeLine ∧ Nx (upd H4 D (.lst (acc ++ [y]))) else Nx H3) := by
  refine lc_it (walk_list (K := K) (a := e) (xs := l.map V.str)) (fun i H2 => H2 D = some (.lst (((l.take i).filter b).map V.str)) ∧ Same H1 H2) ⟨upd_same, same_new nD⟩ (fun i H2 _ h => SqL.of (h.2 e _ he)) ?_ ?_
  · rintro i x H2 H2' hi ⟨hD, sm⟩ ⟨rfl, hx⟩
    rw [List.getElem?_map] at hx
    cases hy : l[i]? with
    | none => rw [hy] at hx; cases hx
    | some z =>
      rw [hy] at hx
      have hx' : V.str z = x := Option.some.inj hx
      subst hx'
      have tk : l.take (i + 1) = l.take i ++ [z] := by rw [List.take_add_one, hy]; rfl
      refine ⟨hw z, ht z H2' _ (List.mem_of_getElem? hy) sm fun H3 s3 => ite2 (fun c => ?_) (fun c => ?_)⟩
      · refine ⟨.str z, hj z, _, s3 D _ hD, ?_, ?_, ?_⟩
        · rw [List.length_map]
          refine small1000 (Nat.le_trans (List.length_filter_le _ _) ?_)
          rw [List.length_take]; omega
        · rw [upd_same, tk, List.filter_append, List.map_append]
          show _ = some (HO.lst (_ ++ List.map _ (List.filter _ [z])))
          rw [List.filter_cons, if_pos c]; rfl
        · exact fun c o ec => by
            have nb : c ≠ D := ne_of_none ec nD
            rw [upd_ne nb]; exact s3 c o (sm c o ec)
      · refine ⟨?_, sm.trans s3⟩
        rw [s3 D _ hD, tk, List.filter_append]
        show _ = some (HO.lst (List.map _ (_ ++ List.filter _ [z])))
        rw [List.filter_cons, if_neg c]
        simp
  · rintro H2 ⟨hD, sm⟩
    rw [List.length_map, List.take_length] at hD
    exact hd H2 hD sm
end Nl
end
section
set_option maxHeartbeats 1000000
namespace Nl
open PySem PySem.Spec PyProof.Rows L2 Nt
/-! ### a cut between statements -/
def tMid (t : TS) : TS := fun D σ H => ∃ M : L2.St → Hp → Prop, t { D with nx := M } σ H ∧ ∀ σ' H', M σ' H' → D.nx σ' H'
theorem ps_mid {X : Cx} {st : Stmt} {t : TS} (h : PS X st t) : PS X st (tMid t) := by
  refine ⟨fun pins s σ H D I ⟨M, hw, hm⟩ => ?_⟩
  refine thn (h.run pins s σ _ _ I hw) fun f s1 q => ?_
  cases f with
  | next => obtain ⟨σ', H', I2, q⟩ := q; exact ⟨σ', H', I2, hm _ _ q⟩
  | brk => exact q
  | cont => exact q
  | ret v => exact q
/-! ### texts by their signs -/
theorem mk_toList (l : List Nat) : (⟨l.toArray⟩ : Str).cps.toList = l := by simp
theorem add_list (x y : Str) : (x ++ y).cps.toList = x.cps.toList ++ y.cps.toList := by rw [Str.cps_append, Array.toList_append]
theorem sIx_nat {n d : Nat} {k : Int} (h0 : 0 ≤ k) (h1 : k ≤ n) : HT.sIx n d (some k) = k.toNat := by
  unfold HT.sIx
  show (if k < 0 then (k + (n : Int)).toNat else min k.toNat n) = k.toNat
  rw [if_neg (by omega)]
  omega
theorem sIx_none (n d : Nat) : HT.sIx n d none = d := rfl
theorem cut_to {z : Str} {k : Int} (h0 : 0 ≤ k) (h1 : k ≤ z.length) : (cutS z none (some k)).cps.toList = z.cps.toList.take k.toNat := by
  unfold cutS
  rw [mk_toList, sIx_none, sIx_nat h0 h1, List.drop_zero, Nat.sub_zero]
theorem cut_from {z : Str} {k : Int} (h0 : 0 ≤ k) (h1 : k ≤ z.length) : (cutS z (some k) none).cps.toList = z.cps.toList.drop k.toNat := by
  unfold cutS
  rw [mk_toList, sIx_none, sIx_nat h0 h1]
  refine List.take_of_length_le ?_
  rw [List.length_drop, ← len_list]
  exact Nat.le_refl _
theorem cut_all {z : Str} {k : Int} (h0 : 0 ≤ k) (h1 : (z.length : Int) < k) : (cutS z none (some k)).cps.toList = z.cps.toList := by
  unfold cutS
  rw [mk_toList, sIx_none, List.drop_zero, Nat.sub_zero]
  refine List.take_of_length_le ?_
  rw [← len_list]
  show z.length ≤ if k < 0 then (k + (z.length : Int)).toNat else min k.toNat z.length
  rw [if_neg (by omega)]
  omega
theorem cut_mem {z : Str} {lo hi : Option Int} {c : Nat} (h : c ∈ (cutS z lo hi).cps.toList) : c ∈ z.cps.toList := by
  unfold cutS at h
  rw [mk_toList] at h
  exact List.mem_of_mem_drop (List.mem_of_mem_take h)
def Ab (z : Str) : Prop := ∀ c ∈ z.cps.toList, c ∈ abc.cps.toList
theorem Nm.ab {z : Str} (h : Nm z) : Ab z := (Nm.iff.mp h).2
theorem nm_of {z : Str} (a : Ab z) (h1 : 1 ≤ z.cps.toList.length) (h8 : z.cps.toList.length ≤ 8) : Nm z := Nm.iff.mpr ⟨by rw [len_list]; exact ⟨h1, h8⟩, a⟩
theorem Ab.sm {z : Str} (a : Ab z) {n : Nat} (h : z.cps.toList.length ≤ n) : Sm n z := ⟨by rw [len_list]; exact h, fun c hc => abc_small c (a c hc)⟩
theorem Ab.add {x y : Str} (a : Ab x) (b : Ab y) : Ab (x ++ y) := fun c hc => by
  rw [add_list] at hc
  exact (List.mem_append.mp hc).elim (a c) (b c)
theorem Ab.cut {z : Str} (a : Ab z) (lo hi : Option Int) : Ab (cutS z lo hi) := fun c hc => a c (cut_mem hc)
theorem abc_len : abc.length = 26 := by decide +kernel
theorem abc_len2 : abc.cps.toList.length = 26 := by decide +kernel
theorem abc_at {d : Int} (h0 : 0 ≤ d) (h1 : d < 26) : ∃ c, atI abc.cps.toList d = some c ∧ c ∈ abc.cps.toList ∧ abc.cps.toList[d.toNat]? = some c := by
  obtain ⟨j, rfl⟩ : ∃ j : Nat, d = (j : Int) := ⟨d.toNat, by omega⟩
  have hj : j < abc.cps.toList.length := by rw [abc_len2]; omega
  exact ⟨abc.cps.toList[j], atI_nat (List.getElem?_eq_getElem hj), List.getElem_mem hj, List.getElem?_eq_getElem hj⟩
theorem join_nil_list : ∀ ys : List Str, (Txt.join Str.empty ys).cps.toList = (ys.map (fun y => y.cps.toList)).flatten := by
  intro ys
  rw [TL.join_eq]
  induction ys with
  | nil => rfl
  | cons x r ih =>
    cases r with
    | nil => simp [Str.join]
    | cons y r =>
      show (x ++ Str.empty ++ Str.join Str.empty (y :: r)).cps.toList = _
      rw [Str.cps_append, Array.toList_append, ih, Str.cps_append, Array.toList_append]
      simp [Str.empty]
def sg (c : Nat) : Str := ⟨#[c]⟩
theorem join_sg (cs : List Nat) : (Txt.join Str.empty (cs.map sg)).cps.toList = cs := by
  rw [join_nil_list]
  induction cs with
  | nil => rfl
  | cons c cs ih =>
    rw [List.map_cons, List.map_cons, List.flatten_cons, ih]
    rfl
theorem lens_sg (cs : List Nat) : ((cs.map sg).map (·.length)).sum = cs.length := by
  induction cs with
  | nil => rfl
  | cons c cs ih =>
    rw [List.map_cons, List.map_cons, List.sum_cons, ih, List.length_cons]
    show 1 + _ = _
    omega
theorem PotAt.same {H H' : Hp} {p : Addr} (h : PotAt H p) (s : Same H H') : PotAt H' p := by
  obtain ⟨a, b, hp, hab⟩ := h
  exact ⟨a, b, s _ _ hp, hab⟩
/-! ### a name that is not taken yet -/
def cand (z : Str) (k : Nat) : Str := z ++ sg (abc.cps.toList.getD (k / 26) 0) ++ sg (abc.cps.toList.getD (k % 26) 0)
theorem abc_inj : ∀ i j : Nat, i < 26 → j < 26 → abc.cps.toList.getD i 0 = abc.cps.toList.getD j 0 → i = j := by
  have h : ∀ i : Fin 26, ∀ j : Fin 26, abc.cps.toList.getD i.1 0 = abc.cps.toList.getD j.1 0 → i = j := by decide +kernel
  intro i j hi hj e
  have := h ⟨i, hi⟩ ⟨j, hj⟩ e
  exact congrArg Fin.val this
theorem cand_list (z : Str) (k : Nat) : (cand z k).cps.toList = z.cps.toList ++ [abc.cps.toList.getD (k / 26) 0, abc.cps.toList.getD (k % 26) 0] := by
  unfold cand
  rw [add_list, add_list, List.append_assoc]; rfl
theorem cand_inj {z : Str} {i j : Nat} (hi : i < 90) (hj : j < 90) (e : cand z i = cand z j) : i = j := by
  have h := congrArg (fun s : Str => s.cps.toList) e
  simp only [cand_list] at h
  have h2 := List.append_cancel_left h
  have h3 : abc.cps.toList.getD (i / 26) 0 = abc.cps.toList.getD (j / 26) 0 := by
    injection h2
  have h4 : abc.cps.toList.getD (i % 26) 0 = abc.cps.toList.getD (j % 26) 0 := by
    injection h2 with _ h5
    injection h5
  have a := abc_inj (i / 26) (j / 26) (by omega) (by omega) h3
  have b := abc_inj (i % 26) (j % 26) (by omega) (by omega) h4
  omega
theorem cand_nd (z : Str) : ((List.range 90).map (cand z)).Nodup := by
  unfold List.Nodup
  rw [List.pairwise_map]
  exact List.Pairwise.imp_of_mem (fun {a b} ha hb h e => h (cand_inj (List.mem_range.mp ha) (List.mem_range.mp hb) e)) (List.nodup_range (n := 90))
theorem cand_free {z : Str} {L : List Str} (h : L.length < 90) : (((List.range 90).map (cand z)).filter fun x => !decide (x ∈ L)) ≠ [] := by
  intro e
  have := len_le_of_sub (cand_nd z) (m := L) fun x hx => by
    by_cases hm : x ∈ L
    · exact hm
    · have : x ∈ (((List.range 90).map (cand z)).filter fun x => !decide (x ∈ L)) := List.mem_filter.mpr ⟨hx, by rw [decide_eq_false hm]; rfl⟩
      rw [e] at this
      exact absurd this List.not_mem_nil
  rw [List.length_map, List.length_range] at this
  omega
end Nl
end
section
set_option maxHeartbeats 2000000
namespace Rl
open PySem PySem.W PySem.Calls PyProof.Rows PyProof.V PySem.Spec DT
section
variable {K : Type} [DecidableEq K] {prog : Program} {w : World} {knd : HeapKind prog w K}
theorem meetsPop1 {d b : Addr} {k : K} (hd : (d == sysModules) = false) :
    MeetsIn prog w (Builtin.«dict.pop» ⟨[.ref d, .ref b], []⟩) (fun A R s => ∃ xs p, knd.room A.in1 ∧ knd.is s.heap k b ∧ s.heap.DictOfH knd d xs ∧ xs.length ≤ sizeLine ∧ atKey xs k = some p ∧
      ∀ h' tk, h'.DictOfH knd d (dropH xs k) → Heap.SameBut d s.heap h' → R (.ok (.ret p.2)) { s with heap := h', toks := tk }) :=
  .of_wp fun A R s ⟨xs, p0, hu, hkey, hm, hsz, hat, hsome⟩ => by
    obtain ⟨o, es, ep, ho, hc, hdat, he, his, hn⟩ := id hm
    have hes : es.size = xs.length := size_of_entries he
    have hpart : (keyPart (Value.ref b)).isSome = false := rfl
    unfold Builtin.«dict.pop»
    refine wpAny_bind ?_
    unfold Builtin.Dict.keyAndDefault
    refine wpAny_bind (wpAny_notOrdered_dict hm.typeIs ?_)
    show wpAny _ _ (pure (d, Value.ref b, none)) _ _ s
    refine wpAny_pure ?_
    simp only [hpart, Bool.false_eq_true, if_false]
    refine wpAny_bind (wpAny_dictEntries ho hdat (wpAny_bind (wpAny_pure ?_)))
    cases hem : es.isEmpty with
    | true =>
      have h0 : xs = [] := by
        have z : es.size = 0 := by simpa using hem
        exact List.length_eq_zero_iff.mp (by omega)
      rw [h0] at hat
      cases hat
    | false =>
      simp only [Bool.false_eq_true, if_false]
      refine wpAny_bind (takeH hu hkey hm hsz (fun hno => ?_) fun p e hp hev h' hm' hs' => ?_)
      · rw [hat] at hno; cases hno
      · simp only [Option.isNone_some, Bool.false_eq_true, if_false]
        rw [hat] at hp
        cases hp
        exact wpAny_bind (wpAny_letGo (wpAny_pure ⟨e.val, rfl, by rw [hev]; exact hsome h' _ hm' hs'⟩))
end
end Rl
namespace Rl
open PySem PySem.Spec PyProof.Rows L2 L2.DX
section
variable {X : Cx}
def rPopT1 : V → List V → Hp → VK → Prop := fun x xs H Q => ∃ (a : Addr) (kvs : List (List L2.Key × V)) (k : List L2.Key) (b : Addr) (v : V), x = .ref a ∧ xs = [.ref b] ∧ H a = some (.dT kvs) ∧ H b = some (.tup (k.map kV)) ∧ valV kvs k = some v ∧ Q v (upd H a (.dT (dropK kvs k)))
theorem mt_popT1 (hu : X.A.units + 1 < cLine) : MtR X "dict.pop" rPopT1 := by
  intro pins s σ H x xs v us Q I rx rxs h
  obtain ⟨a, kvs, k, b, v0, rfl, rfl, ha, hb, ev, q1⟩ := h
  cases rx
  obtain ⟨u1, rfl, r1⟩ : ∃ u1, us = [u1] ∧ RelV (.ref b) u1 := by
    cases rxs with
    | cons h t => cases t; exact ⟨_, rfl, h⟩
  cases r1
  obtain ⟨z, hd, xs', rel, dd⟩ := dt_of I.hok ha
  have hz : xs'.length ≤ sizeLine := by rw [← Paired.length rel]; exact z
  have r := rel.val k
  rw [ev] at r
  obtain ⟨p, hp, rv⟩ : ∃ p, atKey xs' k = some p ∧ RelV v0 p.2 := by
    cases e : atKey xs' k with
    | none => rw [e] at r; exact (show False from r).elim
    | some p => rw [e] at r; exact ⟨p, rfl, r⟩
  refine call_meetsIn PySem.F.slot_dict_pop dd.typeIs PySem.F.entry_dict_pop (PySem.F.args_dict_pop_2 _ _) (meetsPop1 (knd := tupleKind (mixKind X.prog X.w)) (k := k) hd)
    ⟨xs', p, tupleKind_room_in1 hu, key_of I.hok hb, dd, hz, hp, fun h' tk dd' hs => ?_⟩
  obtain ⟨o, es, ep, hq, h2, h3, h4, _, h5⟩ := dd'
  have I2 : Inv X pins σ (upd H a (.dT (dropK kvs k))) { s with heap := h', toks := tk } :=
    d_write I (by rw [ha]; exact True.intro) hs ⟨o, hq⟩ ⟨Nat.le_trans (dropK_le kvs k) z, hd, _, (KT_drop k rel).keeps (fun c ys ec => (by rw [upd_ne (ne_of ec ha (fun z => nomatch z))]; exact ec)), o, es, ep, hq, h2, h3, h4, h5⟩
  show EP X pins σ Q p.2 _
  exact ⟨v0, _, I2, rv, q1⟩
end
end Rl
end
section
set_option maxHeartbeats 1000000
namespace Nl
open PySem PySem.Spec PyProof.Rows L2 Nt
theorem sumOf_append (f : (Str × Str) × Int → Bool) (P R : Pi) : sumOf f (P ++ R) = sumOf f P + sumOf f R := by
  unfold sumOf
  rw [List.filter_append, List.map_append, List.sum_append]
theorem sumOf_one (f : (Str × Str) × Int → Bool) (p : (Str × Str) × Int) : sumOf f [p] = if f p = true then p.2 else 0 := by
  unfold sumOf
  by_cases h : f p = true
  · rw [List.filter_cons, if_pos h, if_pos h]; simp
  · rw [List.filter_cons, if_neg h, if_neg h]; rfl
theorem sumOf_split (f g : (Str × Str) × Int → Bool) (P : Pi) : sumOf f P = sumOf f (P.filter g) + sumOf f (P.filter fun p => !g p) := by
  induction P with
  | nil => rfl
  | cons p r ih =>
    have e : ∀ l : Pi, sumOf f (p :: l) = sumOf f [p] + sumOf f l := fun l => sumOf_append f [p] l
    rw [e r, ih]
    by_cases h : g p = true
    · rw [List.filter_cons, if_pos h, List.filter_cons, if_neg (by rw [h]; decide), e (List.filter g r)]
      omega
    · rw [List.filter_cons, if_neg h, List.filter_cons, if_pos (by simp [h]), e (List.filter (fun p => !g p) r)]
      omega
theorem outW_add (P : Pi) (q : Str × Str) (v : Int) (x : Str) : outW (P ++ [(q, v)]) x = outW P x + if q.1 = x then v else 0 := by
  unfold outW
  rw [sumOf_append, sumOf_one]
  by_cases h : q.1 = x
  · rw [if_pos (decide_eq_true h), if_pos h]
  · rw [if_neg (by simp [h]), if_neg h]
theorem inW_add (P : Pi) (q : Str × Str) (v : Int) (x : Str) : inW (P ++ [(q, v)]) x = inW P x + if q.2 = x then v else 0 := by
  unfold inW
  rw [sumOf_append, sumOf_one]
  by_cases h : q.2 = x
  · rw [if_pos (decide_eq_true h), if_pos h]
  · rw [if_neg (by simp [h]), if_neg h]
theorem wf_add {B : Br} {P : Pi} (wf : Wf Nm B P) {x y : Str} {v : Int} (hx : x ∈ nms B) (hy : y ∈ nms B) (ne : x ≠ y) (v1 : 1 ≤ v) (v60 : v ≤ 60) (fr : (x, y) ∉ P.map Prod.fst) (ln : P.length < 200) : Wf Nm B (P ++ [((x, y), v)]) where
  nb := wf.nb
  lb := wf.lb
  rb := wf.rb
  np := by
    rw [List.map_append, List.nodup_append]
    refine ⟨wf.np, by simp, fun a ha b hb e => ?_⟩
    have hb' : b = (x, y) := by simpa using hb
    exact fr (by rw [← hb', ← e]; exact ha)
  lp := by rw [List.length_append]; show P.length + 1 ≤ 200; omega
  rp := fun p hp => by
    rcases List.mem_append.mp hp with h | h
    · exact wf.rp p h
    · have : p = ((x, y), v) := by simpa using h
      subst this
      exact ⟨hx, hy, ne, v1, v60⟩
theorem fit_add {B : Br} {P : Pi} (wf : Wf Nm B P) (fit : Fit B P) {x y : Str} {c d v : Int} (hc : getB B x = some c) (hd : getB B y = some d) (h1 : v ≤ c - outW P x) (h2 : v ≤ d - inW P y) (v1 : 1 ≤ v) : Fit B (P ++ [((x, y), v)]) := fun p hp => by
  obtain ⟨f1, f2⟩ := fit p hp
  have g := getB_of_mem wf.nb (show (p.1, p.2) ∈ B from hp)
  rw [outW_add, inW_add]
  show outW P p.1 + (if x = p.1 then v else 0) ≤ p.2 ∧ inW P p.1 + (if y = p.1 then v else 0) ≤ p.2
  constructor
  · by_cases h : x = p.1
    · rw [if_pos h]
      rw [← h, hc] at g
      have : c = p.2 := Option.some.inj g
      rw [← h]; omega
    · rw [if_neg h]; omega
  · by_cases h : y = p.1
    · rw [if_pos h]
      rw [← h, hd] at g
      have : d = p.2 := Option.some.inj g
      rw [← h]; omega
    · rw [if_neg h]; omega
/-! ### one pipe less -/
def less (P : Pi) (q : Str × Str) : Pi := P.filter fun p => decide (p.1 ≠ q)
theorem drop_pt (P : Pi) (q : Str × Str) : dropK (pt P) (Rl.pk q) = pt (less P q) := by
  unfold dropK pt less
  rw [List.filter_map]
  congr 1
  refine List.filter_congr fun p _ => ?_
  show decide (Rl.pk p.1 ≠ Rl.pk q) = decide (p.1 ≠ q)
  by_cases h : p.1 = q
  · rw [h]; simp
  · rw [decide_eq_true (show p.1 ≠ q from h)]
    exact decide_eq_true fun e => h (Rl.pk_inj e)
theorem less_sub {P : Pi} {q : Str × Str} {p : (Str × Str) × Int} (h : p ∈ less P q) : p ∈ P := (List.mem_filter.mp h).1
theorem wf_less {B : Br} {P : Pi} (wf : Wf Nm B P) (q : Str × Str) : Wf Nm B (less P q) where
  nb := wf.nb
  lb := wf.lb
  rb := wf.rb
  np := wf.np.sublist (List.filter_sublist.map _)
  lp := Nat.le_trans (List.length_filter_le _ _) wf.lp
  rp := fun p hp => wf.rp p (less_sub hp)
theorem sum_less {B : Br} {P : Pi} (wf : Wf Nm B P) (q : Str × Str) (f : (Str × Str) × Int → Bool) : sumOf f (less P q) ≤ sumOf f P := by
  rw [sumOf_split f (fun p => decide (p.1 ≠ q)) P]
  have := sumOf_nonneg (f := f) (P := P.filter fun p => !decide (p.1 ≠ q)) fun p hp => by
    have := (wf.rp p (List.mem_filter.mp hp).1).2.2.2.1
    omega
  unfold less
  omega
theorem fit_less {B : Br} {P : Pi} (wf : Wf Nm B P) (fit : Fit B P) (q : Str × Str) : Fit B (less P q) := fun p hp => by
  obtain ⟨f1, f2⟩ := fit p hp
  have := sum_less wf q (fun r => decide (r.1.1 = p.1))
  have := sum_less wf q (fun r => decide (r.1.2 = p.1))
  unfold outW inW at *
  omega
theorem sumOf_ge {B : Br} {P : Pi} (wf : Wf Nm B P) {f : (Str × Str) × Int → Bool} {R : Pi} (hs : ∀ p ∈ R, p ∈ P) {p : (Str × Str) × Int} (hp : p ∈ R) (hf : f p = true) : 1 ≤ sumOf f R := by
  obtain ⟨l, r, rfl⟩ := List.append_of_mem hp
  rw [sumOf_append, show p :: r = [p] ++ r from rfl, sumOf_append, sumOf_one, if_pos hf]
  have nn : ∀ R' : Pi, (∀ q ∈ R', q ∈ l ++ p :: r) → 0 ≤ sumOf f R' := fun R' h => sumOf_nonneg fun q hq => by
    have := (wf.rp q (hs q (h q hq))).2.2.2.1
    omega
  have h1 := nn l fun q hq => List.mem_append_left _ hq
  have h2 := nn r fun q hq => List.mem_append_right _ (List.mem_cons_of_mem _ hq)
  have h3 := (wf.rp p (hs p hp)).2.2.2.1
  omega
theorem out_less {B : Br} {P : Pi} (wf : Wf Nm B P) {x y : Str} {v : Int} (h : ((x, y), v) ∈ P) : outW (less P (x, y)) x < outW P x := by
  unfold outW
  rw [sumOf_split (fun p => decide (p.1.1 = x)) (fun p => decide (p.1 ≠ (x, y))) P]
  have := sumOf_ge wf (f := fun p => decide (p.1.1 = x)) (R := P.filter fun p => !decide (p.1 ≠ (x, y))) (fun p hp => (List.mem_filter.mp hp).1) (p := ((x, y), v)) (List.mem_filter.mpr ⟨h, by simp⟩) (decide_eq_true rfl)
  unfold less
  omega
/-- a way out stays, and the pond that lost its pipe soaks -/
theorem opn_less {B : Br} {P : Pi} (wf : Wf Nm B P) (fit : Fit B P) {x y : Str} {v : Int} (h : ((x, y), v) ∈ P) : Opn B (less P (x, y)) x ∧ ∀ z, Opn B P z → Opn B (less P (x, y)) z := by
  have hx : Opn B (less P (x, y)) x := by
    obtain ⟨c, hc⟩ := getB_some (wf.rp _ h).1
    have m := getB_mem hc
    have f := (fit _ m).1
    have o := out_less wf h
    exact .soak m (by
      show outW (less P (x, y)) x < c
      have f' : outW P x ≤ c := f
      omega)
  refine ⟨hx, fun z o => ?_⟩
  induction o with
  | @soak z b m l =>
    refine .soak m ?_
    have := sum_less wf (x, y) (fun r => decide (r.1.1 = z))
    unfold outW at *
    omega
  | @step a b w m _ ih =>
    by_cases e : (a, b) = (x, y)
    · have : a = x := congrArg Prod.fst e
      rw [this]; exact hx
    · exact .step (List.mem_filter.mpr ⟨m, decide_eq_true e⟩) ih
/-- at most n ponds have no way out -/
def Few (B : Br) (P : Pi) (n : Nat) : Prop := ∀ L : List Str, L.Nodup → (∀ x ∈ L, x ∈ nms B ∧ ¬ Opn B P x) → L.length ≤ n
theorem few_all {B : Br} {P : Pi} : Few B P B.length := fun L nd h => by
  have := len_le_of_sub nd (m := nms B) fun x hx => (h x hx).1
  rw [nms_len] at this
  exact this
theorem few_less {B : Br} {P : Pi} (wf : Wf Nm B P) (fit : Fit B P) {x y : Str} {v : Int} (h : ((x, y), v) ∈ P) (cx : ¬ Opn B P x) {n : Nat} (f : Few B P (n + 1)) : Few B (less P (x, y)) n := fun L nd hl => by
  obtain ⟨ox, keep⟩ := opn_less wf fit h
  have := f (x :: L) (List.nodup_cons.mpr ⟨fun m => (hl x m).2 ox, nd⟩) fun z hz => by
    rcases List.mem_cons.mp hz with rfl | hz
    · exact ⟨(wf.rp _ h).1, cx⟩
    · exact ⟨(hl z hz).1, fun o => (hl z hz).2 (keep z o)⟩
  rw [List.length_cons] at this
  omega
theorem few_none {B : Br} {P : Pi} (h : ∀ x, x ∈ nms B → Opn B P x) (n : Nat) : Few B P n := fun L nd hl => by
  cases L with
  | nil => exact Nat.zero_le _
  | cons x l => exact absurd (h x (hl x List.mem_cons_self).1) (hl x List.mem_cons_self).2
theorem few_zero {B : Br} {P : Pi} (f : Few B P 0) : ∀ x ∈ nms B, Opn B P x := fun x hx => by
  by_cases o : Opn B P x
  · exact o
  · have := f [x] (by simp) fun z hz => by
      have : z = x := by simpa using hz
      subst this; exact ⟨hx, o⟩
    exact absurd this (by show ¬ (1 ≤ 0); decide)
/-- a closed pond has a pipe -/
theorem closed_pipe {B : Br} {P : Pi} (wf : Wf Nm B P) {x : Str} (hx : x ∈ nms B) (cx : ¬ Opn B P x) : ∃ y v, ((x, y), v) ∈ P := by
  obtain ⟨c, hc⟩ := getB_some hx
  have m := getB_mem hc
  have c1 := (wf.rb _ m).2.1
  have nl : ¬ outW P x < c := fun l => cx (.soak m l)
  cases hf : P.filter fun p => decide (p.1.1 = x) with
  | nil =>
    have : outW P x = 0 := by unfold outW sumOf; rw [hf]; rfl
    have c1' : 1 ≤ c := c1
    omega
  | cons p r =>
    have hp : p ∈ P.filter fun p => decide (p.1.1 = x) := by rw [hf]; exact List.mem_cons_self
    obtain ⟨h1, h2⟩ := List.mem_filter.mp hp
    have e : p.1.1 = x := of_decide_eq_true h2
    exact ⟨p.1.2, p.2, by rw [← e]; exact h1⟩
end Nl
end
section
set_option maxHeartbeats 2000000
namespace Nl
open PySem PySem.Spec PyProof.Rows L2 Nt
theorem pair_lc {K : PySem.W.Frag} {qs : List (Addr × (Str × Str))} {e D : Addr} {H1 : Hp} {σ : L2.St} {jv jn : Nat} {z : Str} {Qd : Hp → Prop} (ln : qs.length ≤ 900) (he : H1 e = some (.lst (qs.map fun q => V.ref q.1))) (nD : H1 D = none)
    (hq : ∀ q ∈ qs, H1 q.1 = some (.tup [.str q.2.1, .str q.2.2]))
    (hv : ∀ q : Addr, ((wipe σ [jv]).set jv (some (.ref q)))[jv]? = some (some (V.ref q))) (hn : ∀ q : Addr, ((wipe σ [jv]).set jv (some (.ref q)))[jn]? = some (some (V.str z)))
    (hw : ∀ q : Addr, wipe ((wipe σ [jv]).set jv (some (.ref q))) [jv] = wipe σ [jv])
    (hd : ∀ H2, H2 D = some (.lst ((qs.filter fun q => decide (q.2.1 = z)).map fun q => V.ref q.1)) → Same H1 H2 → Qd H2) :
    ∃ W : Nat → Nat → Hp → Prop, (∃ m, W 0 m (upd H1 D (.lst []))) ∧ ∀ i m H, W i m H →
      ((Itl K e).stop i H ∧ Qd H) ∨ ((Itl K e).go i H ∧ ∃ Nx : Hp → Prop, (∀ H', Nx H' → ∃ m', m' < m ∧ W (i + 1) m' H') ∧
        ∀ x H', (Itl K e).yld i H x H' → gName jv x (wipe σ [jv]) H' fun σ2 H2 => wipe σ2 [jv] = wipe σ [jv] ∧ tTest (tOp rEq (tOp (rIxT K) (tVar jv) (tC (.int 0))) (tVar jn)) σ2 H2 fun b H3 =>
          if b = true then tVar jv σ2 H3 fun y H4 => ∃ acc, H4 D = some (.lst acc) ∧ acc.length < sizeLine ∧ Nx (upd H4 D (.lst (acc ++ [y]))) else Nx H3) := by
  refine lc_it (walk_list (K := K) (a := e) (xs := qs.map fun q => V.ref q.1)) (fun i H2 => H2 D = some (.lst (((qs.take i).filter fun q => decide (q.2.1 = z)).map fun q => V.ref q.1)) ∧ Same H1 H2) ⟨upd_same, same_new nD⟩ (fun i H2 _ h => SqL.of (h.2 e _ he)) ?_ ?_
  · rintro i x H2 H2' hi ⟨hD, sm⟩ ⟨rfl, hx⟩
    rw [List.getElem?_map] at hx
    cases hy : qs[i]? with
    | none => rw [hy] at hx; cases hx
    | some q =>
      rw [hy] at hx
      have hx' : V.ref q.1 = x := Option.some.inj hx
      subst hx'
      have tk : qs.take (i + 1) = qs.take i ++ [q] := by rw [List.take_add_one, hy]; rfl
      refine ⟨hw q.1, .ref q.1, hv q.1, q.1, [.str q.2.1, .str q.2.2], 0, .str q.2.1, rfl, rfl, SqT.of (sm _ _ (hq q (List.mem_of_getElem? hy))), atI_nat (j := 0) rfl, .str z, hn q.1, rfl, _, rfl, ?_⟩
      rw [decStr]
      refine ite2 (fun c => ?_) (fun c => ?_)
      · refine ⟨.ref q.1, hv q.1, _, hD, ?_, ?_, ?_⟩
        · rw [List.length_map]
          refine small1000 (Nat.le_trans (List.length_filter_le _ _) ?_)
          rw [List.length_take]; omega
        · rw [upd_same, tk, List.filter_append, List.map_append]
          show _ = some (HO.lst (_ ++ List.map _ (List.filter _ [q])))
          rw [List.filter_cons, if_pos c]; rfl
        · exact fun c o ec => by
            have nb : c ≠ D := ne_of_none ec nD
            rw [upd_ne nb]; exact sm c o ec
      · refine ⟨?_, sm⟩
        rw [hD, tk, List.filter_append]
        show _ = some (HO.lst (List.map _ (_ ++ List.filter _ [q])))
        rw [List.filter_cons, if_neg c]
        simp
  · rintro H2 ⟨hD, sm⟩
    rw [List.length_map, List.take_length] at hD
    exact hd H2 hD sm
theorem str_at {L : List Str} {d : Int} (h0 : 0 ≤ d) (h1 : d < L.length) : ∃ x, atI (L.map V.str) d = some (.str x) ∧ x ∈ L := by
  obtain ⟨j, rfl⟩ : ∃ j : Nat, d = (j : Int) := ⟨d.toNat, by omega⟩
  have hj : j < L.length := by omega
  exact ⟨L[j], atI_nat (by rw [List.getElem?_map, List.getElem?_eq_getElem hj]; rfl), List.getElem_mem hj⟩
theorem nms_at {B : Br} {i : Nat} {v : V} (h : ((nms B).map V.str)[i]? = some v) : ∃ x, v = .str x ∧ (nms B)[i]? = some x := by
  rw [List.getElem?_map] at h
  cases e : (nms B)[i]? with
  | none => rw [e] at h; cases h
  | some x => rw [e] at h; exact ⟨x, (Option.some.inj h).symm, rfl⟩
end Nl
end
section
set_option maxHeartbeats 2000000
namespace Nl
open PySem PySem.Spec PyProof.Rows L2 Nt
section
variable {P : Program} {w : World} {K : PySem.W.Frag} {mg : Str → Option Value} {base : Heap}
theorem scRoom : FnScope ["_law_brims", "_law_pipes", "_law_one", "_law_other_here", "_law_out", "_law_come", "_law_pair"] ["_law_brims", "_law_pipes", "_law_one", "_law_other_here"] (defScope sRoom) := ⟨rfl, rfl, rfl, by decide +kernel, rfl, by decide +kernel, by decide +kernel⟩
def spRoom : Sp := fun vs H Q _ => ∃ (a b : Addr) (B : Br) (Pp : Pi) (x y : Str) (c d : Int), vs = [.ref a, .ref b, .str x, .str y] ∧ H a = some (.dK (bk B)) ∧ H b = some (.dT (pt Pp)) ∧ (Pp.map Prod.fst).Nodup ∧ Pp.length ≤ 200 ∧ getB B x = some c ∧ getB B y = some d ∧
  ∀ H', Same H H' → Q (.int (if d - inW Pp y < c - outW Pp x then d - inW Pp y else c - outW Pp x)) H'
theorem ok_room {f : Addr} {fd : FuncData} {k : Nat} (F : Fun K "_law_room" "_law_room" sRoom f fd) (ms : mg "sum" = none) (mm : mg "min" = none) : FnOk P w K mg base CX0 (k + 1) f fd ["_law_brims", "_law_pipes", "_law_one", "_law_other_here"] spRoom := by
  refine F.ok scRoom (fun vs H Q E h => ?_) (fun cdv A outer s H vs Q E hr h => ?_)
  · obtain ⟨a, b, B, Pp, x, y, c, d, rfl, _⟩ := h
    rfl
  · obtain ⟨a, b, B, Pp, x, y, c, d, rfl, hA, hB, nd, lp, gx, gy, q⟩ := h
    have hu := hu_of hr
    refine ⟨_, pss_cons (ps_set (i := 4) scRoom.nd rfl (.inl rfl) (pe_callB (cr_sum rfl) (by rfl) ms (by decide +kernel) (pa_cons (pe_lock (pe_lc (own := [("_law_pair", 6)]) (g := gName 6) (tt := tTest (tOp rEq (tOp (rIxT K) (tVar 6) (tC (.int 0))) (tVar 2))) rfl scRoom.nd (pi_keys (pv 1))
        (blkOk_by (N := ["_law_brims", "_law_pipes", "_law_one", "_law_other_here", "_law_out", "_law_come", "_law_pair"]) (sc := defScope sRoom) (by decide +kernel)) (fun _ _ _ _ _ => pg_name (i := 6) scRoom.nd rfl (Or.inl rfl))
        (fun _ _ _ _ _ => pts_one (pt_cmpR op_eq (pe_ix ix_tup (pv 6) pe_int (fun _ _ => rfl)) (pv 2) (nomark _))) (fun _ _ _ _ _ => pe_dget hu (pv 1) (pv 6) (fun _ _ => rfl)))) pa_nil)))
      (pss_cons (ps_set (i := 5) scRoom.nd rfl (.inl rfl) (pe_callB (cr_sum rfl) (by rfl) ms (by decide +kernel) (pa_cons (pe_lock (pe_lc (own := [("_law_pair", 6)]) (g := gName 6) (tt := tTest (tOp rEq (tOp (rIxT K) (tVar 6) (tC (.int 1))) (tVar 3))) rfl scRoom.nd (pi_keys (pv 1))
        (blkOk_by (N := ["_law_brims", "_law_pipes", "_law_one", "_law_other_here", "_law_out", "_law_come", "_law_pair"]) (sc := defScope sRoom) (by decide +kernel)) (fun _ _ _ _ _ => pg_name (i := 6) scRoom.nd rfl (Or.inl rfl))
        (fun _ _ _ _ _ => pts_one (pt_cmpR op_eq (pe_ix ix_tup (pv 6) pe_int (fun _ _ => rfl)) (pv 3) (nomark _))) (fun _ _ _ _ _ => pe_dget hu (pv 1) (pv 6) (fun _ _ => rfl)))) pa_nil)))
      (pss_one (ps_ret (pe_callB (call_min2 rfl) (by rfl) mm (by decide +kernel) (pa_cons (pe_op op_sub (pe_dget hu (pv 0) (pv 2) (fun _ _ => rfl)) (pv 4)) (pa_cons (pe_op op_sub (pe_dget hu (pv 0) (pv 3) (fun _ _ => rfl)) (pv 5)) pa_nil)))))), ?_⟩
    refine pick_ok (K := K) (jp := 1) (jv := 6) (jn := 2) (c := 0) (z := x) (fun p => p.1.1) (fun p => .int p.2) at0 lp hB rfl (fun _ => rfl) (fun _ => rfl) (fun _ => rfl) (fun p q od H2 R hm sm hq r => width_at nd hm sm hq rfl rfl r) fun D H1 s1 nD hD => ?_
    refine ⟨D, (Pp.filter fun p => decide (p.1.1 = x)).map (·.2), rfl, SqL.of (by rw [hD, List.map_map]; rfl), ?_⟩
    refine pick_ok (K := K) (jp := 1) (jv := 6) (jn := 3) (c := 1) (z := y) (fun p => p.1.2) (fun p => .int p.2) at1 lp (s1 b _ hB) rfl (fun _ => rfl) (fun _ => rfl) (fun _ => rfl) (fun p q od H2 R hm sm hq r => width_at nd hm sm hq rfl rfl r) fun D2 H2 s2 nD2 hD2 => ?_
    refine ⟨D2, (Pp.filter fun p => decide (p.1.2 = y)).map (·.2), rfl, SqL.of (by rw [hD2, List.map_map]; rfl), ?_⟩
    have sA := s1.trans s2
    refine get_bk (.inl (sA a _ hA)) gx rfl rfl ⟨_, rfl, c, outW Pp x, rfl, rfl, ?_⟩
    refine get_bk (.inl (sA a _ hA)) gy rfl rfl ⟨_, rfl, d, inW Pp y, rfl, rfl, ?_⟩
    exact ⟨_, _, rfl, q H2 sA⟩
theorem scClosed : FnScope ["_law_brims", "_law_pipes", "_law_left", "_law_turn", "_law_name_here", "_law_pair"] ["_law_brims", "_law_pipes"] (defScope sClosed) := ⟨rfl, rfl, rfl, by decide +kernel, rfl, by decide +kernel, by decide +kernel⟩
end
end Nl
end
section
set_option maxHeartbeats 2000000
namespace Nl
open PySem PySem.Spec PyProof.Rows L2 Nt
section
variable {P : Program} {w : World} {K : PySem.W.Frag} {mg : Str → Option Value} {base : Heap}
def spClosed : Sp := fun vs H Q _ => ∃ (a b : Addr) (B : Br) (Pp : Pi), vs = [.ref a, .ref b] ∧ H a = some (.dK (bk B)) ∧ H b = some (.dT (pt Pp)) ∧ Wf Nm B Pp ∧ Fit B Pp ∧
  ∀ (r : Addr) (L : List Str) (H' : Hp), Same H H' → H r = none → H' r = some (.lst (L.map V.str)) → L.Nodup → (∀ x, x ∈ L ↔ x ∈ nms B ∧ ¬ Opn B Pp x) → Q (.ref r) H'
theorem ok_closed {f : Addr} {fd : FuncData} {k : Nat} (F : Fun K "_law_closed" "_law_closed" sClosed f fd) (ms : mg "sum" = none) (mso : mg "sorted" = none) (mr : mg "range" = none) (mn : mg "len" = none) (ma : mg "all" = none) : FnOk P w K mg base CX0 (k + 1) f fd ["_law_brims", "_law_pipes"] spClosed := by
  refine F.ok scClosed (fun vs H Q E h => ?_) (fun cdv A outer s H vs Q E hr h => ?_)
  · obtain ⟨a, b, B, Pp, rfl, _⟩ := h
    rfl
  · obtain ⟨a, b, B, Pp, rfl, hA, hB, wf, fit, q⟩ := h
    have hu := hu_of hr
    refine ⟨_, pss_cons (ps_set (i := 2) scClosed.nd rfl (by first | exact .inl rfl | exact .inr rfl) (pe_lc (own := [("_law_name_here", 4)]) (g := gName 4)
        (tt := tTest (tOp rEq (tDGet (tVar 0) (tVar 4)) (tCB (rSum K) (tCons (tPick K 1 5 4 0 (tDGet (tVar 1) (tVar 5))) tNil)))) (te := tVar 4) rfl scClosed.nd
        (pi_list (pe_callB (call_sortedD rfl) (by rfl) mso (by decide +kernel) (pa_cons (pv 0) pa_nil)))
        (blkOk_by (N := ["_law_brims", "_law_pipes", "_law_left", "_law_turn", "_law_name_here", "_law_pair"]) (sc := defScope sClosed) (by decide +kernel)) (fun _ _ _ _ _ => pg_name (i := 4) scClosed.nd rfl (Or.inr rfl))
        (fun _ _ _ _ _ => pts_one (pt_cmpR op_eq (pe_dget hu (pv 0) (pv 4) (fun _ _ => rfl)) (pe_callB (cr_sum rfl) (by rfl) ms (by decide +kernel) (pa_cons (pe_lock (pe_lc (own := [("_law_pair", 5)]) (g := gName 5)
          (tt := tTest (tOp rEq (tOp (rIxT K) (tVar 5) (tC (.int 0))) (tVar 4))) (te := tDGet (tVar 1) (tVar 5)) rfl scClosed.nd (pi_keys (pv 1))
          (blkOk_by (N := ["_law_brims", "_law_pipes", "_law_left", "_law_turn", "_law_name_here", "_law_pair"]) (sc := { kind := .function, names := [(".0", .local), ("_law_name_here", .cell), ("sum", .globalImplicit), ("_law_brims", .cell), ("_law_pipes", .cell)], isGenerator := false, isCoroutine := false }) (by decide +kernel))
          (fun _ _ _ _ _ => pg_name (i := 5) scClosed.nd rfl (Or.inl rfl)) (fun _ _ _ _ _ => pts_one (pt_cmpR op_eq (pe_ix ix_tup (pv 5) pe_int (fun _ _ => rfl)) (pv 4) (nomark _))) (fun _ _ _ _ _ => pe_dget hu (pv 1) (pv 5) (fun _ _ => rfl)))) pa_nil)) (nomark _)))
        (fun _ _ _ _ _ => pv 4)))
      (pss_cons (ps_for PassesOwn.never rfl (pi_range1 (by rfl) mr (pa_cons (pe_callB call_lenD (by rfl) mn PySem.boot_len (pa_cons (pv 0) pa_nil)) pa_nil)) (pg_name (i := 3) scClosed.nd rfl (Or.inl rfl))
        (pss_one (ps_set (i := 2) scClosed.nd rfl (by first | exact .inl rfl | exact .inr rfl) (pe_lc (own := [("_law_name_here", 4)]) (g := gName 4)
          (tt := tB (tCB (rAll K) (tCons (tPick K 1 5 4 0 (tOp (rIn K false) (tOp (rIxT K) (tVar 5) (tC (.int 1))) (tVar 2))) tNil))) (te := tVar 4) rfl scClosed.nd (pi_list (pv 2))
          (blkOk_by (N := ["_law_brims", "_law_pipes", "_law_left", "_law_turn", "_law_name_here", "_law_pair"]) (sc := defScope sClosed) (by decide +kernel)) (fun _ _ _ _ _ => pg_name (i := 4) scClosed.nd rfl (Or.inr rfl))
          (fun _ _ _ _ _ => pts_one (pt_val (pe_callB (cr_all rfl) (by rfl) ma (by decide +kernel) (pa_cons (pe_lock (pe_lc (own := [("_law_pair", 5)]) (g := gName 5)
            (tt := tTest (tOp rEq (tOp (rIxT K) (tVar 5) (tC (.int 0))) (tVar 4))) (te := tOp (rIn K false) (tOp (rIxT K) (tVar 5) (tC (.int 1))) (tVar 2)) rfl scClosed.nd (pi_keys (pv 1))
            (blkOk_by (N := ["_law_brims", "_law_pipes", "_law_left", "_law_turn", "_law_name_here", "_law_pair"]) (sc := { kind := .function, names := [(".0", .local), ("_law_name_here", .cell), ("all", .globalImplicit), ("_law_left", .cell), ("_law_pipes", .cell)], isGenerator := false, isCoroutine := false }) (by decide +kernel))
            (fun _ _ _ _ _ => pg_name (i := 5) scClosed.nd rfl (Or.inl rfl)) (fun _ _ _ _ _ => pts_one (pt_cmpR op_eq (pe_ix ix_tup (pv 5) pe_int (fun _ _ => rfl)) (pv 4) (nomark _)))
            (fun _ _ _ _ _ => pe_cmpR op_in_seq (pe_ix ix_tup (pv 5) pe_int (fun _ _ => rfl)) (pv 2) (by rfl)))) pa_nil))))
          (fun _ _ _ _ _ => pv 4)))))
      (pss_one (ps_ret (pv 2)))), ?_⟩
    have lB : B.length ≤ 12 := wf.lb
    refine ⟨.ref a, rfl, a, bk B, nms B, rfl, .inl hA, ?_, ?_, fun ys e0 pm _ ne0 => ?_⟩
    · unfold bk nms
      rw [List.map_map, List.map_map]; rfl
    · rw [nms_len]; omega
    have s0 : Same H (upd H e0 (.lst (ys.map V.str))) := same_new ne0
    have lY : ys.length = B.length := by rw [pm.length_eq, nms_len]
    refine ⟨e0, rfl, ⟨_, SqL.of upd_same⟩, fun D nD => ?_⟩
    refine keep_lc (K := K) (b := fun z => decide (val0 B z = outW Pp z)) (by omega) upd_same nD (fun _ => rfl) (fun _ => rfl) (fun z H2 R mz sm r => ?_) (fun H2 hD sm => ?_)
    · have sA := s0.trans sm
      obtain ⟨c, gz⟩ := getB_some (pm.mem_iff.mp mz)
      refine get_bk (.inl (sA a _ hA)) gz rfl rfl ?_
      refine pick_ok (K := K) (jp := 1) (jv := 5) (jn := 4) (c := 0) (z := z) (fun p => p.1.1) (fun p => .int p.2) at0 wf.lp (sA b _ hB) rfl (fun _ => rfl) (fun _ => rfl) (fun _ => rfl) (fun p q od H2 R hm sm hq r => width_at wf.np hm sm hq rfl rfl r) fun D3 H3 s3 nD3 hD3 => ?_
      refine ⟨D3, (Pp.filter fun p => decide (p.1.1 = z)).map (·.2), rfl, SqL.of (by rw [hD3, List.map_map]; rfl), rfl, _, rfl, ?_⟩
      have := r H3 s3
      rw [show val0 B z = c by unfold val0; rw [gz]; rfl] at this
      have e : decide (V.int c = V.int (outW Pp z)) = decide (c = outW Pp z) := by
        by_cases h : c = outW Pp z
        · rw [h]; simp
        · rw [decide_eq_false h, decide_eq_false (fun z => h (by injection z))]
      rw [← e] at this
      exact this
    have sB := s0.trans sm
    obtain ⟨L0, hL0⟩ : ∃ L0, L0 = ys.filter fun z => decide (val0 B z = outW Pp z) := ⟨_, rfl⟩
    rw [← hL0] at hD
    have nd0 : L0.Nodup := by rw [hL0]; exact (pm.nodup_iff.mpr wf.nb).sublist List.filter_sublist
    have l0 : L0.length ≤ 12 := by
      rw [hL0]
      exact Nat.le_trans (List.length_filter_le _ _) (by omega)
    have mem0 : ∀ x, x ∈ L0 ↔ ∃ b, (x, b) ∈ B ∧ b = outW Pp x := fun x => by
      rw [hL0, List.mem_filter, pm.mem_iff]
      constructor
      · rintro ⟨h1, h2⟩
        obtain ⟨c, g⟩ := getB_some h1
        have h3 : val0 B x = outW Pp x := of_decide_eq_true h2
        unfold val0 at h3
        rw [g] at h3
        exact ⟨c, getB_mem g, h3⟩
      · rintro ⟨c, hc, e⟩
        refine ⟨List.mem_map.mpr ⟨_, hc, rfl⟩, decide_eq_true ?_⟩
        unfold val0
        rw [getB_of_mem wf.nb hc]; exact e
    have nDH : H D = none := s0.free nD
    refine ⟨.ref a, rfl, a, _, rfl, sB a _ hA, _, rfl, by rw [bk_len]; omega, by rw [bk_len]; omega, ?_⟩
    refine for_it walk_range (fun i σ H3 => ∃ (r : Addr) (y3 y4 y5 : Option V), σ = [some (.ref a), some (.ref b), some (.ref r), y3, y4, y5] ∧ H3 r = some (.lst ((leavesN Pp i L0).map V.str)) ∧ H r = none ∧ Same H H3)
      ⟨D, none, none, none, rfl, hD, nDH, sB⟩ (fun _ _ _ _ _ => trivial) ?_ ?_
    · rintro i x σ H3 H3' hi ⟨r, y3, y4, y5, rfl, hr3, nr, s3⟩ ⟨rfl, rfl⟩
      refine ⟨.ref r, rfl, r, rfl, ⟨_, SqL.of hr3⟩, fun D4 nD4 => ?_⟩
      have lL : (leavesN Pp i L0).length ≤ 12 := Nat.le_trans (leavesN_len Pp i L0 nd0) l0
      refine keep_lc (K := K) (b := leafB Pp (leavesN Pp i L0)) (by omega) hr3 nD4 (fun _ => rfl) (fun _ => rfl) (fun z H4 R mz sm4 rr => ?_) (fun H4 hD4 sm4 => ?_)
      · refine pick_ok (K := K) (jp := 1) (jv := 5) (jn := 4) (c := 0) (z := z) (fun p => p.1.1) (fun p => .bl (decide (p.1.2 ∈ leavesN Pp i L0))) at0 wf.lp (sm4 b _ (s3 b _ hB)) rfl (fun _ => rfl) (fun _ => rfl) (fun _ => rfl) (fun p q od H2 R hm sm hq r2 => ?_) fun D5 H5 s5 nD5 hD5 => ?_
        · have hrb : r ≠ b := fun e => by
            subst e
            rw [hB] at nr; cases nr
          refine ⟨.ref q, rfl, q, _, 1, _, rfl, rfl, SqT.of hq, at1 p, .ref r, rfl, r, _, rfl, .inl (SqL.of (sm r _ (by rw [upd_ne hrb]; exact sm4 r _ hr3))), rfl, flat_strs _, ?_⟩
          show R (.bl (inV (.str p.1.2) _)) H2
          rw [inV_strs]
          exact r2
        · refine ⟨D5, (Pp.filter fun p => decide (p.1.1 = z)).map (fun p => decide (p.1.2 ∈ leavesN Pp i L0)), rfl, SqL.of (by rw [hD5, List.map_map]; rfl), _, rfl, ?_⟩
          have := rr H5 s5
          unfold leafB at this
          rw [List.all_map]
          exact this
      · refine ⟨D4, _, _, _, rfl, ?_, s3.free nD4, s3.trans sm4⟩
        rw [leavesN_succ]
        exact hD4
    · rintro σ H3 ⟨r, y3, y4, y5, rfl, hr3, nr, s3⟩
      rw [show ((((bk B).length : Nat) : Int).toNat) = B.length by rw [bk_len]; omega] at hr3
      exact ⟨.ref r, rfl, q r _ H3 s3 nr hr3 (leavesN_nodup _ _ _ nd0) (leavesN_iff wf fit mem0 nd0)⟩
end
end Nl
end
section
set_option maxHeartbeats 1000000
namespace Nl
open PySem PySem.Spec PyProof.Rows L2 Nt
def wrds : List Str := ["pond", "spill", "main", "ok", "pour", "settled", "rest", "a"]
theorem wrds_nm : ∀ z ∈ wrds, Nm z := by
  have : ∀ z ∈ wrds, nameB z = true := by decide +kernel
  exact this
theorem len2 {x y : Str} {m n : Nat} (hx : x.length ≤ m) (hy : y.length ≤ n) (h : m + n ≤ 1000) : x.length + y.length ≤ sizeLine := line1000 (by omega)
section
variable {P : Program} {w : World} {K : PySem.W.Frag} {mg : Str → Option Value} {base : Heap}
theorem scLName : FnScope ["_law_pot_here", "_law_taken", "_law_letters", "_law_size", "_law_word", "_law_near", "_law_at", "_law_some", "_law_k", "_law_one"] ["_law_pot_here", "_law_taken"] (defScope sLName) := ⟨rfl, rfl, rfl, by decide +kernel, rfl, by decide +kernel, by decide +kernel⟩
def spLName : Sp := fun vs H Q _ => ∃ (p a : Addr) (L : List Str), vs = [.ref p, .ref a] ∧ PotAt H p ∧ H a = some (.lst (L.map V.str)) ∧ L.length ≤ 80 ∧ (∀ z ∈ L, Nm z) ∧
  ∀ (z : Str) (H' : Hp), Nm z → z ∉ L → H' a = some (.lst ((L ++ [z]).map V.str)) → (∀ b o, b ≠ p → b ≠ a → H b = some o → H' b = some o) → PotAt H' p → Q (.str z) H'
theorem ok_lname {f fD : Addr} {fd fdD : FuncData} (F : Fun K "_law_name" "_law_name" sLName f fd) (FD : Fun K "_law_draw" "_law_draw" sDraw fD fdD) (GD : FnOk P w K mg base CX0 1 fD fdD ["_law_pot_here", "_law_many"] spDraw) (bD : Binds K fdD ["_law_pot_here", "_law_many"] [])
    (gD : mg "_law_draw" = some (.ref fD)) (mr : mg "range" = none) (mn : mg "len" = none) : FnOk P w K mg base CX0 2 f fd ["_law_pot_here", "_law_taken"] spLName := by
  refine F.ok scLName (fun vs H Q E h => ?_) (fun cdv A outer s H vs Q E hr h => ?_)
  · obtain ⟨p, a, L, rfl, _⟩ := h
    rfl
  · obtain ⟨p, a, L, rfl, hP, hA, lL, nL, q⟩ := h
    have hap : a ≠ p := fun e => by
      obtain ⟨x, y, hp, _⟩ := hP
      subst e
      rw [hA] at hp
      cases L with
      | nil => cases hp
      | cons z l => simp at hp
    refine ⟨_, pss_cons (ps_set (i := 2) scLName.nd rfl (by first | exact .inl rfl | exact .inr rfl) pe_str)
      (pss_cons (ps_set (i := 3) scLName.nd rfl (by first | exact .inl rfl | exact .inr rfl) (pe_ix ix_list (pe_lst (pa_cons pe_int (pa_cons pe_int (pa_cons pe_int (pa_cons pe_int (pa_cons (pe_op op_add pe_int (pe_call GD hr (by rfl) gD FD.kp bD .nil pass0 (pa_cons (pv 0) (pa_cons pe_int pa_nil)))) pa_nil))))))
        (pe_call GD hr (by rfl) gD FD.kp bD .nil pass0 (pa_cons (pv 0) (pa_cons pe_int pa_nil))) (fun _ _ => rfl)))
      (pss_cons (ps_set (i := 4) scLName.nd rfl (by first | exact .inl rfl | exact .inr rfl) (pe_join pe_str (pe_lc (own := [("_law_k", 8)]) (g := gName 8) (tt := tYes) rfl scLName.nd (pi_range1 (by rfl) mr (pa_cons (pv 3) pa_nil))
        (blkOk_by (N := ["_law_pot_here", "_law_taken", "_law_letters", "_law_size", "_law_word", "_law_near", "_law_at", "_law_some", "_law_k", "_law_one"]) (sc := defScope sLName) (by decide +kernel)) (fun _ _ _ _ _ => pg_name (i := 8) scLName.nd rfl (Or.inl rfl)) (fun _ _ _ _ _ => pts_nil)
        (fun _ _ _ _ _ => pe_ix ix_str (pv 2) (pe_call GD hr (by rfl) gD FD.kp bD .nil pass0 (pa_cons (pv 0) (pa_cons pe_int pa_nil))) (fun _ _ => rfl)))))
      (pss_cons (ps_mid (ps_if (PW.pt (pw_and (pt_cmpR (op_neD hr.units) (pv 1) (pe_lst pa_nil) (nomark _)) (pw_and1 (pt_cmpR op_eq (pe_call GD hr (by rfl) gD FD.kp bD .nil pass0 (pa_cons (pv 0) (pa_cons pe_int pa_nil))) pe_int (nomark _)))))
        (pss_cons (ps_set (i := 5) scLName.nd rfl (by first | exact .inl rfl | exact .inr rfl) (pe_ix ix_list (pv 1) (pe_call GD hr (by rfl) gD FD.kp bD .nil pass0 (pa_cons (pv 0) (pa_cons (pe_callB call_len_seq (by rfl) mn PySem.boot_len (pa_cons (pv 1) pa_nil)) pa_nil))) (fun _ _ => rfl)))
        (pss_cons (ps_set (i := 6) scLName.nd rfl (by first | exact .inl rfl | exact .inr rfl) (pe_call GD hr (by rfl) gD FD.kp bD .nil pass0 (pa_cons (pv 0) (pa_cons (pe_callB call_len_str (by rfl) mn PySem.boot_len (pa_cons (pv 5) pa_nil)) pa_nil))))
        (pss_one (ps_set (i := 4) scLName.nd rfl (by first | exact .inl rfl | exact .inr rfl) (pe_op op_add_str (pe_op op_add_str (pe_slice sl_str (pv 5) po_none (po_some (pv 6))) (pe_slice sl_str (pv 4) po_none (po_some pe_int))) (pe_slice sl_str (pv 5) (po_some (pe_op op_add (pv 6) pe_int)) po_none)))))) pss_nil))
      (pss_cons (ps_mid (ps_if (pt_cmpR op_eq (pe_call GD hr (by rfl) gD FD.kp bD .nil pass0 (pa_cons (pv 0) (pa_cons pe_int pa_nil))) pe_int (nomark _))
        (pss_one (ps_set (i := 4) scLName.nd rfl (by first | exact .inl rfl | exact .inr rfl) (pe_ix ix_list (pe_lst (pa_cons pe_str (pa_cons pe_str (pa_cons pe_str (pa_cons pe_str (pa_cons pe_str (pa_cons pe_str (pa_cons pe_str (pa_cons pe_str pa_nil)))))))))
          (pe_call GD hr (by rfl) gD FD.kp bD .nil pass0 (pa_cons (pv 0) (pa_cons pe_int pa_nil))) (fun _ _ => rfl)))) pss_nil))
      (pss_cons (ps_mid (ps_if (pt_cmpR op_in_seq (pv 4) (pv 1) (by rfl))
        (pss_cons (ps_setLc (i := 7) (own := [("_law_k", 8)]) (g := gName 8) (tt := tYes) rfl scLName.nd rfl rfl rfl (pi_range1 (by rfl) mr (pa_cons pe_int pa_nil))
          (blkOk_by (N := ["_law_pot_here", "_law_taken", "_law_letters", "_law_size", "_law_word", "_law_near", "_law_at", "_law_some", "_law_k", "_law_one"]) (sc := defScope sLName) (by decide +kernel)) (fun _ _ _ _ _ => pg_name (i := 8) scLName.nd rfl (Or.inl rfl)) (fun _ _ _ _ _ => pts_nil)
          (fun _ _ _ _ _ => pe_op op_add_str (pe_op op_add_str (pe_slice sl_str (pv 4) po_none (po_some pe_int)) (pe_ix ix_str (pv 2) (pe_op op_fdiv (pv 8) pe_int) (fun _ _ => rfl))) (pe_ix ix_str (pv 2) (pe_op op_mod (pv 8) pe_int) (fun _ _ => rfl))))
        (pss_one (ps_set (i := 4) scLName.nd rfl (by first | exact .inl rfl | exact .inr rfl) (pe_ix ix_list (pe_lc (own := [("_law_one", 9)]) (g := gName 9) (tt := tTest (tOp (rIn K true) (tVar 9) (tVar 1))) (te := tVar 9) rfl scLName.nd (pi_list (pv 7))
          (blkOk_by (N := ["_law_pot_here", "_law_taken", "_law_letters", "_law_size", "_law_word", "_law_near", "_law_at", "_law_some", "_law_k", "_law_one"]) (sc := defScope sLName) (by decide +kernel)) (fun _ _ _ _ _ => pg_name (i := 9) scLName.nd rfl (Or.inl rfl))
          (fun _ _ _ _ _ => pts_one (pt_cmpR op_notIn_seq (pv 9) (pv 1) (by rfl))) (fun _ _ _ _ _ => pv 9)) pe_int (fun _ _ => rfl))))) pss_nil))
      (pss_cons (ps_expr (pe_bm PySem.F.plainAttrs_list PySem.F.slot_list_append PySem.F.type_list_append mt_append (pv 1) (pa_cons (pv 4) pa_nil)))
      (pss_one (ps_ret (pv 4))))))))), ?_⟩
    -- size
    refine ⟨.ref p, rfl, p, 8, rfl, hP, by decide, by decide, fun d1 H1 k1 hP1 d10 d11 => ?_⟩
    refine ⟨1, d1, rfl, rfl, line1000 (by show 5 ≤ 1000; decide), fun l nl => ?_⟩
    have hlp : l ≠ p := hP1.ne nl
    refine ⟨.ref p, rfl, p, 5, rfl, hP1.new nl, by decide, by decide, fun d2 H2 k2 hP2 d20 d21 => ?_⟩
    have hsz : ∃ sz : Int, atI [V.int 1, V.int 1, V.int 2, V.int 8, V.int (1 + d1)] d2 = some (.int sz) ∧ 1 ≤ sz ∧ sz ≤ 8 := by
      have : d2 = 0 ∨ d2 = 1 ∨ d2 = 2 ∨ d2 = 3 ∨ d2 = 4 := by omega
      rcases this with rfl | rfl | rfl | rfl | rfl
      · exact ⟨1, atI_nat (j := 0) rfl, by decide, by decide⟩
      · exact ⟨1, atI_nat (j := 1) rfl, by decide, by decide⟩
      · exact ⟨2, atI_nat (j := 2) rfl, by decide, by decide⟩
      · exact ⟨8, atI_nat (j := 3) rfl, by decide, by decide⟩
      · exact ⟨1 + d1, atI_nat (j := 4) rfl, by omega, by omega⟩
    obtain ⟨sz, hat, z1, z8⟩ := hsz
    refine ⟨l, _, d2, .int sz, rfl, rfl, SqL.of (k2 l _ hlp upd_same), hat, ?_⟩
    have kA : Kp p H H2 := k1.trans ((Kp.new nl).trans k2)
    -- word
    refine ⟨⟨_, rfl⟩, .int sz, rfl, sz, rfl, by omega, by omega, fun D nD => ?_⟩
    have hDp := hP2.ne nD
    refine lc_it (n := sz.toNat) walk_range (fun i H3 => ∃ cs : List Nat, H3 D = some (.lst ((cs.map sg).map V.str)) ∧ cs.length = i ∧ (∀ c ∈ cs, c ∈ abc.cps.toList) ∧ Kp p H H3 ∧ PotAt H3 p)
      ⟨[], upd_same, rfl, fun c hc => absurd hc List.not_mem_nil, kA.trans (Kp.new nD), hP2.new nD⟩ (fun _ _ _ _ => trivial) ?_ ?_
    · rintro i x H3 H3' hi ⟨cs, hD, hl, hy, kp, hP3⟩ ⟨rfl, rfl⟩
      refine ⟨rfl, .str abc, rfl, .ref p, rfl, p, 26, rfl, hP3, by decide, by decide, fun d H4 k4 hP4 d0 d1 => ?_⟩
      obtain ⟨c, hc, hm, _⟩ := abc_at d0 d1
      refine ⟨abc, d, c, rfl, rfl, by rw [abc_len]; decide, hc, _, k4 _ _ hDp hD, ?_, cs ++ [c], ?_, ?_, ?_, ?_, ?_⟩
      · rw [List.length_map, List.length_map, hl]; exact small1000 (by omega)
      · rw [upd_same, List.map_append, List.map_append]; rfl
      · rw [List.length_append, hl]; rfl
      · intro y hy'
        rcases List.mem_append.mp hy' with e | e
        · exact hy y e
        · have : y = c := by simpa using e
          subst this; exact hm
      · intro b o nb e
        by_cases hb : b = D
        · subst hb
          have := kA b o nb e
          rw [nD] at this; cases this
        · rw [upd_ne hb]
          exact k4 b o nb (kp b o nb e)
      · exact hP4.put hDp
    rintro H3 ⟨cs, hD, hl, hy, kp, hP3⟩
    refine ⟨_, D, cs.map sg, rfl, rfl, .inl (SqL.of hD), ?_, ?_⟩
    · show ((cs.map sg).map (·.length)).sum + (cs.map sg).length * 0 ≤ _
      rw [lens_sg]
      exact line1000 (by omega)
    obtain ⟨wd, hwd⟩ : ∃ wd, wd = Txt.join Str.empty (cs.map sg) := ⟨_, rfl⟩
    have nw : Nm wd := by
      have e : wd.cps.toList = cs := by rw [hwd, join_sg]
      exact nm_of (fun c hc => hy c (by rw [← e]; exact hc)) (by rw [e, hl]; omega) (by rw [e, hl]; omega)
    show tMid _ _ [some (V.ref p), some (V.ref a), some (V.str abc), some (V.int sz), some (V.str (Txt.join Str.empty (cs.map sg))), none, none, none, none, none] H3
    rw [← hwd]
    -- near
    refine ⟨fun σ' H' => ∃ (wd : Str) (y5 y6 : Option V), σ' = [some (.ref p), some (.ref a), some (.str abc), some (.int sz), some (.str wd), y5, y6, none, none, none] ∧ Nm wd ∧ PotAt H' p ∧ Kp p H H', ?_, ?_⟩
    · refine ⟨.ref a, rfl, Nat.zero_le _, fun e ne => ?_⟩
      have s3 : Same H3 (upd H3 e (.lst [])) := same_new ne
      have hA3 := s3 a _ (kp a _ hap hA)
      have kp' : Kp p H (upd H3 e (.lst [])) := kp.trans (Kp.new ne)
      refine ne_nil hA3 upd_same (fun z hz => (nL z hz).sm.mono (by decide)) ⟨_, rfl, ite2 (fun c => ?_) (fun c => ?_)⟩
      · have hL0 : 0 < L.length := List.length_pos_iff.mpr fun z => by subst z; exact absurd c (by decide)
        refine ⟨.ref p, rfl, p, 4, rfl, hP3.new ne, by decide, by decide, fun d H4 k4 hP4 d0 d1 => ?_⟩
        have hA4 := k4 a _ hap hA3
        refine ⟨rfl, _, rfl, ite2 (fun c => ?_) (fun c => ?_)⟩
        · refine ⟨.ref a, rfl, .ref p, rfl, .ref a, rfl, a, _, rfl, .inl (SqL.of hA4), p, _, rfl, hP4, by rw [List.length_map]; omega, by rw [List.length_map]; omega, fun d5 H5 k5 hP5 d50 d51 => ?_⟩
          rw [List.length_map] at d51
          have hj : d5.toNat < L.length := by omega
          have hy5 : L[d5.toNat]? = some L[d5.toNat] := List.getElem?_eq_getElem hj
          have hm5 : L[d5.toNat] ∈ L := List.getElem_mem hj
          have nn := nL _ hm5
          obtain ⟨nr, hnr⟩ : ∃ nr, nr = L[d5.toNat] := ⟨_, rfl⟩
          rw [← hnr] at hy5 nn
          obtain ⟨⟨n1, n8⟩, nab⟩ := Nm.iff.mp nn
          obtain ⟨⟨w1, w8⟩, wab⟩ := Nm.iff.mp nw
          have hx5 : atI (L.map V.str) d5 = some (.str nr) := by
            have e : d5 = ((d5.toNat : Nat) : Int) := by omega
            rw [e]
            exact atI_nat (by rw [List.getElem?_map, hy5]; rfl)
          refine ⟨a, _, d5, .str nr, rfl, rfl, SqL.of (k5 a _ hap hA4), hx5, ?_⟩
          refine ⟨.ref p, rfl, .str nr, rfl, nr, rfl, line1000 (by omega), p, _, rfl, hP5, by omega, by omega, fun t H6 k6 hP6 t0 t1 => ?_⟩
          have e1 := cut_to (z := nr) (k := t) t0 (by omega)
          have e2 := cut_to (z := wd) (k := 1) (by decide) (by omega)
          have e3 := cut_from (z := nr) (k := t + 1) (by omega) (by omega)
          have g1 := cutS_length nr none (some t)
          have g2 := cutS_length wd none (some 1)
          have g3 := cutS_length nr (some (t + 1)) none
          refine ⟨.str nr, rfl, .int t, rfl, t, rfl, nr, rfl, line1000 (by omega), .str wd, rfl, 1, rfl, wd, rfl, line1000 (by omega), _, _, rfl, rfl, line1000 (by omega), ?_⟩
          refine ⟨.str nr, rfl, .int t, rfl, t, 1, rfl, rfl, t + 1, rfl, nr, rfl, line1000 (by omega), _, _, rfl, rfl, line1000 (by rw [strLen_append]; omega), ?_⟩
          refine ⟨_, _, _, rfl, nm_of (((Ab.cut nab _ _).add (Ab.cut wab _ _)).add (Ab.cut nab _ _)) ?_ ?_, hP6, kp'.trans (k4.trans (k5.trans k6))⟩
          · rw [add_list, add_list, e1, e2, e3, List.length_append, List.length_append, List.length_take, List.length_take, List.length_drop, ← len_list, ← len_list]
            show 1 ≤ min t.toNat nr.length + min 1 wd.length + (nr.length - (t + 1).toNat)
            omega
          · rw [add_list, add_list, e1, e2, e3, List.length_append, List.length_append, List.length_take, List.length_take, List.length_drop, ← len_list, ← len_list]
            show min t.toNat nr.length + min 1 wd.length + (nr.length - (t + 1).toNat) ≤ 8
            omega
        · exact ⟨wd, none, none, rfl, nw, hP4, kp'.trans k4⟩
      · exact iteF ⟨wd, none, none, rfl, nw, hP3.new ne, kp'⟩
    clear nw hwd wd hP3 kp hD
    rintro σ H3 ⟨wd, y5, y6, rfl, nw, hP3, kp⟩
    -- a word that is known
    refine ⟨fun σ' H' => ∃ (wd : Str), σ' = [some (.ref p), some (.ref a), some (.str abc), some (.int sz), some (.str wd), y5, y6, none, none, none] ∧ Nm wd ∧ PotAt H' p ∧ Kp p H H', ?_, ?_⟩
    · refine ⟨.ref p, rfl, p, 16, rfl, hP3, by decide, by decide, fun d H4 k4 hP4 d0 d1 => ?_⟩
      refine ⟨rfl, _, rfl, ite2 (fun c => ?_) (fun c => ?_)⟩
      · refine ⟨line1000 (by decide), fun l nl => ?_⟩
        have hlp : l ≠ p := hP4.ne nl
        refine ⟨.ref p, rfl, p, 8, rfl, hP4.new nl, by decide, by decide, fun d5 H5 k5 hP5 d50 d51 => ?_⟩
        obtain ⟨j, rfl⟩ : ∃ j : Nat, d5 = (j : Int) := ⟨d5.toNat, by omega⟩
        have hj : j < wrds.length := by show _ < 8; omega
        have hx5 : atI (wrds.map V.str) (j : Int) = some (.str wrds[j]) := atI_nat (by rw [List.getElem?_map, List.getElem?_eq_getElem hj]; rfl)
        refine ⟨l, wrds.map V.str, (j : Int), _, rfl, rfl, SqL.of (k5 l _ hlp upd_same), hx5, ?_⟩
        exact ⟨_, rfl, wrds_nm _ (List.getElem_mem hj), hP5, kp.trans (k4.trans ((Kp.new nl).trans k5))⟩
      · exact ⟨wd, rfl, nw, hP4, kp.trans k4⟩
    clear nw hP3 kp wd
    rintro σ H3 ⟨wd, rfl, nw, hP3, kp⟩
    have hA3 := kp a _ hap hA
    -- not taken
    refine ⟨fun σ' H' => ∃ (wd : Str) (y7 : Option V), σ' = [some (.ref p), some (.ref a), some (.str abc), some (.int sz), some (.str wd), y5, y6, y7, none, none] ∧ Nm wd ∧ wd ∉ L ∧ PotAt H' p ∧ Kp p H H', ?_, ?_⟩
    · refine ⟨.str wd, rfl, .ref a, rfl, a, _, rfl, .inl (SqL.of hA3), rfl, flat_strs _, ?_⟩
      show ∃ k, V.bl (inV (.str wd) (L.map V.str)) = .bl k ∧ _
      rw [inV_strs]
      refine ⟨_, rfl, ite2 (fun c => ?_) (fun c => ?_)⟩
      · obtain ⟨⟨w1, w8⟩, wab⟩ := Nm.iff.mp nw
        refine ⟨90, rfl, by decide, by decide, fun D2 nD2 => ?_⟩
        obtain ⟨pre, hpre⟩ : ∃ pre, pre = cutS wd none (some 6) := ⟨_, rfl⟩
        have pl : pre.length ≤ 6 := by
          rw [hpre, len_list]
          by_cases h6 : (6 : Int) ≤ wd.length
          · rw [cut_to (by decide) h6, List.length_take]
            show min 6 _ ≤ 6
            omega
          · rw [cut_all (by decide) (by omega), ← len_list]; omega
        have pab : Ab pre := by rw [hpre]; exact Ab.cut wab _ _
        refine lc_it (n := 90) walk_range (fun i H4 => H4 D2 = some (.lst (((List.range i).map (cand pre)).map V.str)) ∧ Same H3 H4) ⟨upd_same, same_new nD2⟩ (fun _ _ _ _ => trivial) ?_ ?_
        · rintro i x H4 H4' hi ⟨hD4, sm⟩ ⟨rfl, rfl⟩
          have q0 : (0 : Int) ≤ (0 + (i : Int)) / 26 := by omega
          obtain ⟨c1, hc1, hm1, hg1⟩ := abc_at (d := (0 + (i : Int)) / 26) q0 (by omega)
          obtain ⟨c2, hc2, hm2, hg2⟩ := abc_at (d := (0 + (i : Int)) % 26) (by omega) (by omega)
          refine ⟨rfl, .str wd, rfl, 6, rfl, wd, rfl, line1000 (by omega), .str abc, rfl, .int (0 + (i : Int)), rfl, _, 26, rfl, rfl, ⟨by decide, by decide⟩, abc, _, c1, rfl, rfl, by rw [abc_len]; decide, hc1, _, _, rfl, rfl, ?_,
            .str abc, rfl, .int (0 + (i : Int)), rfl, _, 26, rfl, rfl, (by show (0 : Int) < 26; decide), abc, _, c2, rfl, rfl, by rw [abc_len]; decide, hc2, _, _, rfl, rfl, ?_, _, hD4, ?_, ?_, ?_⟩
          · rw [← hpre]
            show pre.length + 1 ≤ _
            exact line1000 (by omega)
          · rw [← hpre, strLen_append]
            show pre.length + 1 + 1 ≤ _
            exact line1000 (by omega)
          · rw [List.length_map, List.length_map, List.length_range]; exact small1000 (by omega)
          · rw [upd_same, List.range_succ, List.map_append, List.map_append, ← hpre]
            have t1 : ((0 + (i : Int)) / 26).toNat = i / 26 := by omega
            have t2 : ((0 + (i : Int)) % 26).toNat = i % 26 := by omega
            rw [t1] at hg1
            rw [t2] at hg2
            have e : pre ++ (⟨#[c1]⟩ : Str) ++ (⟨#[c2]⟩ : Str) = cand pre i := by
              unfold cand sg
              rw [List.getD_eq_getElem?_getD, List.getD_eq_getElem?_getD, hg1, hg2]; rfl
            rw [e]; rfl
          · exact fun c o ec => by
              have nb : c ≠ D2 := ne_of_none ec nD2
              rw [upd_ne nb]; exact sm c o ec
        rintro H4 ⟨hD4, sm⟩
        refine ⟨.ref D2, rfl, D2, rfl, ⟨_, SqL.of hD4⟩, fun D5 nD5 => ?_⟩
        refine keep_lc (K := K) (b := fun z => !decide (z ∈ L)) (by rw [List.length_map, List.length_range]; decide) hD4 nD5 (fun _ => rfl) (fun _ => rfl) (fun z H5 R mz sm5 r => ?_) (fun H5 hD5 sm5 => ?_)
        · refine ⟨.str z, rfl, .ref a, rfl, a, _, rfl, .inl (SqL.of (sm5 a _ (sm a _ hA3))), rfl, flat_strs _, ?_⟩
          refine ⟨_, rfl, ?_⟩
          show R (!inV (.str z) (L.map V.str)) H5
          rw [inV_strs]
          exact r H5 (Same.refl _)
        · have ne := cand_free (z := pre) (L := L) (by omega)
          cases hf : (((List.range 90).map (cand pre)).filter fun x => !decide (x ∈ L)) with
          | nil => exact absurd hf ne
          | cons wx rest =>
            rw [hf] at hD5
            have mx : wx ∈ (((List.range 90).map (cand pre)).filter fun x => !decide (x ∈ L)) := by rw [hf]; exact List.mem_cons_self
            obtain ⟨m1, m2⟩ := List.mem_filter.mp mx
            have nx : wx ∉ L := fun z => by rw [decide_eq_true z] at m2; cases m2
            obtain ⟨j, hj, ej⟩ := List.mem_map.mp m1
            have hj90 := List.mem_range.mp hj
            have nwx : Nm wx := by
              rw [← ej]
              have cl := cand_list pre j
              refine nm_of ?_ ?_ ?_
              · intro c hc
                rw [cl] at hc
                rcases List.mem_append.mp hc with h | h
                · exact pab c h
                · have gd : ∀ k, k < 26 → abc.cps.toList.getD k 0 ∈ abc.cps.toList := fun k hk => by
                    have hk' : k < abc.cps.toList.length := by rw [abc_len2]; exact hk
                    rw [List.getD_eq_getElem?_getD, List.getElem?_eq_getElem hk']
                    exact List.getElem_mem hk'
                  have h' : c = abc.cps.toList.getD (j / 26) 0 ∨ c = abc.cps.toList.getD (j % 26) 0 := by simpa using h
                  rcases h' with rfl | rfl
                  · exact gd _ (by omega)
                  · exact gd _ (by omega)
              · rw [cl, List.length_append]
                show 1 ≤ _ + 2
                omega
              · rw [cl, List.length_append, ← len_list]
                show _ + 2 ≤ 8
                omega
            refine ⟨D5, _, 0, .str wx, rfl, rfl, SqL.of hD5, atI_nat (j := 0) rfl, ?_⟩
            exact ⟨wx, _, rfl, nwx, nx, (hP3.same sm).same sm5, kp.trans (Kp.of_same (sm.trans sm5))⟩
      · exact ⟨wd, none, rfl, nw, fun z => c (decide_eq_true z), hP3, kp⟩
    clear nw hP3 kp hA3 wd
    rintro σ H3 ⟨wd, y7, rfl, nw, fw, hP3, kp⟩
    have hA3 := kp a _ hap hA
    refine ⟨.ref a, rfl, .inl ⟨rfl, _, SqL.of hA3⟩, .str wd, rfl, a, _, _, rfl, rfl, hA3, by rw [List.length_map]; exact small1000 (by omega), ?_⟩
    refine ⟨.str wd, rfl, q wd _ nw fw ?_ ?_ (hP3.put hap)⟩
    · rw [upd_same, List.map_append]; rfl
    · intro b o nb na e
      rw [upd_ne na]; exact kp b o nb e
end
end Nl
end
section
set_option maxHeartbeats 2000000
namespace Nl
open PySem PySem.Spec PyProof.Rows L2 Nt
section
variable {P : Program} {w : World} {K : PySem.W.Frag} {mg : Str → Option Value} {base : Heap}
theorem scNet : FnScope ["_law_pot_here", "_law_most", "_law_high", "_law_brims", "_law_pipes", "_law_names", "_law_k", "_law_name_here", "_law_one", "_law_other_here", "_law_room_here", "_law_turn", "_law_closed_here", "_law_pair"] ["_law_pot_here", "_law_most", "_law_high"] (defScope sNet) := ⟨rfl, rfl, rfl, by decide +kernel, rfl, by decide +kernel, by decide +kernel⟩
def spNet : Sp := fun vs H Q _ => ∃ (p : Addr) (mo hi : Int), vs = [.ref p, .int mo, .int hi] ∧ PotAt H p ∧ 4 ≤ mo ∧ mo ≤ 12 ∧ 1 ≤ hi ∧ hi ≤ 60 ∧
  ∀ (t a b : Addr) (B : Br) (Pp : Pi) (H' : Hp), Kp p H H' → PotAt H' p → H t = none → H a = none → H b = none → H' t = some (.tup [.ref a, .ref b]) → H' a = some (.dK (bk B)) → H' b = some (.dT (pt Pp)) → Good B Pp → Q (.ref t) H'
theorem ok_net {f fD fN fR fC : Addr} {fd fdD fdN fdR fdC : FuncData} (F : Fun K "_law_net" "_law_net" sNet f fd) (FD : Fun K "_law_draw" "_law_draw" sDraw fD fdD) (GD : FnOk P w K mg base CX0 1 fD fdD ["_law_pot_here", "_law_many"] spDraw) (bD : Binds K fdD ["_law_pot_here", "_law_many"] []) (gD : mg "_law_draw" = some (.ref fD))
    (FN : Fun K "_law_name" "_law_name" sLName fN fdN) (GN : FnOk P w K mg base CX0 2 fN fdN ["_law_pot_here", "_law_taken"] spLName) (bN : Binds K fdN ["_law_pot_here", "_law_taken"] []) (gN : mg "_law_name" = some (.ref fN))
    (FR : Fun K "_law_room" "_law_room" sRoom fR fdR) (GR : FnOk P w K mg base CX0 1 fR fdR ["_law_brims", "_law_pipes", "_law_one", "_law_other_here"] spRoom) (bR : Binds K fdR ["_law_brims", "_law_pipes", "_law_one", "_law_other_here"] []) (gR : mg "_law_room" = some (.ref fR))
    (FC : Fun K "_law_closed" "_law_closed" sClosed fC fdC) (GC : FnOk P w K mg base CX0 1 fC fdC ["_law_brims", "_law_pipes"] spClosed) (bC : Binds K fdC ["_law_brims", "_law_pipes"] []) (gC : mg "_law_closed" = some (.ref fC))
    (mr : mg "range" = none) (mn : mg "len" = none) (mm : mg "min" = none) (mso : mg "sorted" = none) : FnOk P w K mg base CX0 3 f fd ["_law_pot_here", "_law_most", "_law_high"] spNet := by
  refine F.ok scNet (fun vs H Q E h => ?_) (fun cdv A outer s H vs Q E hr h => ?_)
  · obtain ⟨p, mo, hi, rfl, _⟩ := h
    rfl
  · obtain ⟨p, mo, hi, rfl, hP, mo4, mo12, hi1, hi60, q⟩ := h
    have hu := hu_of hr
    have hr1 := hr.mono (show 1 ≤ 2 by decide)
    refine ⟨_, pss_cons (ps_par3 (i := 3) (j := 4) (l := 5) rfl scNet.nd rfl rfl rfl (by decide) (by decide) (by decide) rfl rfl rfl (pa_cons pe_dnewK (pa_cons pe_dnewT (pa_cons (pe_lst pa_nil) pa_nil))) (by rfl))
      (pss_cons (ps_for PassesOwn.never rfl (pi_range1 (by rfl) mr (pa_cons (pe_ix ix_list (pe_lst (pa_cons pe_int (pa_cons pe_int (pa_cons pe_int (pa_cons pe_int (pa_cons pe_int (pa_cons pe_int (pa_cons (pe_call GD hr1 (by rfl) gD FD.kp bD .nil pass0 (pa_cons (pv 0) (pa_cons (pe_op op_add (pv 1) pe_int) pa_nil))) (pa_cons (pv 1) pa_nil)))))))))
          (pe_call GD hr1 (by rfl) gD FD.kp bD .nil pass0 (pa_cons (pv 0) (pa_cons pe_int pa_nil))) (fun _ _ => rfl)) pa_nil)) (pg_name (i := 6) scNet.nd rfl (Or.inl rfl))
        (pss_one (ps_if (pt_cmpR op_lt (pv 6) (pv 1) (nomark _))
          (pss_cons (ps_set (i := 7) scNet.nd rfl (by first | exact .inl rfl | exact .inr rfl) (pe_call GN hr (by rfl) gN FN.kp bN .nil pass0 (pa_cons (pv 0) (pa_cons (pv 5) pa_nil))))
          (pss_one (ps_dput hu (pv 3) (pv 7) (pe_op op_add pe_int (pe_call GD hr1 (by rfl) gD FD.kp bD .nil pass0 (pa_cons (pv 0) (pa_cons (pe_ix ix_list (pe_lst (pa_cons (pv 2) (pa_cons (pe_callB (call_min2 rfl) (by rfl) mm (by decide +kernel) (pa_cons pe_int (pa_cons (pv 2) pa_nil))) pa_nil)))
            (pe_call GD hr1 (by rfl) gD FD.kp bD .nil pass0 (pa_cons (pv 0) (pa_cons pe_int pa_nil))) (fun _ _ => rfl)) pa_nil)))) rfl))) pss_nil)))
      (pss_cons (ps_for PassesOwn.never rfl (pi_list (pv 5)) (pg_name (i := 8) scNet.nd rfl (Or.inr rfl))
        (pss_one (ps_for PassesOwn.never rfl (pi_list (pv 5)) (pg_name (i := 9) scNet.nd rfl (Or.inl rfl))
          (pss_cons (ps_set (i := 10) scNet.nd rfl (by first | exact .inl rfl | exact .inr rfl) (pe_ifExp (pt_cmpR op_eq (pv 8) (pv 9) (nomark _)) pe_int (pe_call GR hr1 (by rfl) gR FR.kp bR .nil pass0 (pa_cons (pv 3) (pa_cons (pv 4) (pa_cons (pv 8) (pa_cons (pv 9) pa_nil)))))))
          (pss_one (ps_if (PW.pt (pw_and (pt_cmpR op_gt (pv 10) pe_int (nomark _)) (pw_and1 (pt_cmpR op_gt (pe_call GD hr1 (by rfl) gD FD.kp bD .nil pass0 (pa_cons (pv 0) (pa_cons pe_int pa_nil))) pe_int (nomark _)))))
            (pss_one (ps_dput hu (pv 4) (pe_tup (pa_cons (pv 8) (pa_cons (pv 9) pa_nil))) (pe_ix ix_list (pe_lst (pa_cons (pe_op op_add pe_int (pe_call GD hr1 (by rfl) gD FD.kp bD .nil pass0 (pa_cons (pv 0) (pa_cons (pv 10) pa_nil)))) (pa_cons (pv 10) (pa_cons pe_int pa_nil))))
              (pe_call GD hr1 (by rfl) gD FD.kp bD .nil pass0 (pa_cons (pv 0) (pa_cons pe_int pa_nil))) (fun _ _ => rfl)) rfl)) pss_nil))))))
      (pss_cons (ps_for PassesOwn.never rfl (pi_range1 (by rfl) mr (pa_cons (pe_callB call_len_seq (by rfl) mn PySem.boot_len (pa_cons (pv 5) pa_nil)) pa_nil)) (pg_name (i := 11) scNet.nd rfl (Or.inl rfl))
        (pss_cons (ps_set (i := 12) scNet.nd rfl (by first | exact .inl rfl | exact .inr rfl) (pe_call GC hr1 (by rfl) gC FC.kp bC .nil pass0 (pa_cons (pv 3) (pa_cons (pv 4) pa_nil))))
        (pss_one (ps_if (pt_cmpR (op_neD hr.units) (pv 12) (pe_lst pa_nil) (nomark _))
          (pss_cons (ps_set (i := 8) scNet.nd rfl (by first | exact .inl rfl | exact .inr rfl) (pe_ix ix_list (pv 12) (pe_call GD hr1 (by rfl) gD FD.kp bD .nil pass0 (pa_cons (pv 0) (pa_cons (pe_callB call_len_seq (by rfl) mn PySem.boot_len (pa_cons (pv 12) pa_nil)) pa_nil))) (fun _ _ => rfl)))
          (pss_one (ps_expr (pe_bm PySem.F.plainAttrs_dict PySem.F.slot_dict_pop PySem.F.type_dict_pop (Rl.mt_popT1 hu) (pv 4) (pa_cons (pe_ix ix_list (pe_lc (own := [("_law_pair", 13)]) (g := gName 13)
            (tt := tTest (tOp rEq (tOp (rIxT K) (tVar 13) (tC (.int 0))) (tVar 8))) (te := tVar 13) rfl scNet.nd (pi_list (pe_callB (Rl.call_sortD rfl) (by rfl) mso (by decide +kernel) (pa_cons (pv 4) pa_nil)))
            (blkOk_by (N := ["_law_pot_here", "_law_most", "_law_high", "_law_brims", "_law_pipes", "_law_names", "_law_k", "_law_name_here", "_law_one", "_law_other_here", "_law_room_here", "_law_turn", "_law_closed_here", "_law_pair"]) (sc := defScope sNet) (by decide +kernel))
            (fun _ _ _ _ _ => pg_name (i := 13) scNet.nd rfl (Or.inl rfl)) (fun _ _ _ _ _ => pts_one (pt_cmpR op_eq (pe_ix ix_tup (pv 13) pe_int (fun _ _ => rfl)) (pv 8) (nomark _))) (fun _ _ _ _ _ => pv 13)) pe_int (fun _ _ => rfl)) pa_nil))))) pss_nil))))
      (pss_one (ps_ret (pe_tup (pa_cons (pv 3) (pa_cons (pv 4) pa_nil)))))))), ?_⟩
    -- {}, {}, []
    refine fun a na => ?_
    refine fun b nb => ?_
    refine ⟨Nat.zero_le _, fun n nn => ?_⟩
    refine ⟨_, _, _, rfl, ?_⟩
    have hab : a ≠ b := ne_of_none upd_same nb
    have hbn : b ≠ n := ne_of_none upd_same nn
    have han : a ≠ n := ne_of_none (show (upd (upd H a (.dK [])) b (.dT [])) a = some (.dK []) by rw [upd_ne hab]; exact upd_same) nn
    have hap := hP.ne na
    have hbp := (hP.new (o := .dK []) na).ne nb
    have hnp := ((hP.new (o := .dK []) na).new (o := .dT []) nb).ne nn
    have nbH : H b = none := by rw [upd_ne (Ne.symm hab)] at nb; exact nb
    have nnH : H n = none := by
      rw [upd_ne (Ne.symm hbn), upd_ne (Ne.symm han)] at nn; exact nn
    have hP0 : PotAt (upd (upd (upd H a (.dK [])) b (.dT [])) n (.lst [])) p := ((hP.new na).new nb).new nn
    have k0 : Kp p H (upd (upd (upd H a (.dK [])) b (.dT [])) n (.lst [])) := (Kp.new na).trans ((Kp.new nb).trans (Kp.new nn))
    have ha0 : (upd (upd (upd H a (.dK [])) b (.dT [])) n (.lst [])) a = some (.dK (bk [])) := by rw [upd_ne han, upd_ne hab]; exact upd_same
    have hb0 : (upd (upd (upd H a (.dK [])) b (.dT [])) n (.lst [])) b = some (.dT (pt [])) := by rw [upd_ne hbn]; exact upd_same
    have hn0 : (upd (upd (upd H a (.dK [])) b (.dT [])) n (.lst [])) n = some (.lst ((nms []).map V.str)) := upd_same
    obtain ⟨H0, hH0⟩ : ∃ H0, H0 = upd (upd (upd H a (.dK [])) b (.dT [])) n (.lst []) := ⟨_, rfl⟩
    rw [← hH0] at hP0 k0 ha0 hb0 hn0 ⊢
    -- the number of ponds
    refine ⟨.ref p, rfl, .int mo, rfl, mo, 1, rfl, rfl, p, _, rfl, hP0, by omega, by omega, fun d1 H1 k1 hP1 d10 d11 => ?_⟩
    refine ⟨.int mo, rfl, line1000 (by show 8 ≤ 1000; decide), fun l nl => ?_⟩
    have hlp := hP1.ne nl
    refine ⟨.ref p, rfl, p, 8, rfl, hP1.new nl, by decide, by decide, fun d2 H2 k2 hP2 d20 d21 => ?_⟩
    have hsz : ∃ sz : Int, atI [V.int 0, V.int 1, V.int 2, V.int 3, V.int 3, V.int 4, V.int d1, V.int mo] d2 = some (.int sz) ∧ 0 ≤ sz ∧ sz ≤ mo := by
      have : d2 = 0 ∨ d2 = 1 ∨ d2 = 2 ∨ d2 = 3 ∨ d2 = 4 ∨ d2 = 5 ∨ d2 = 6 ∨ d2 = 7 := by omega
      rcases this with rfl | rfl | rfl | rfl | rfl | rfl | rfl | rfl
      · exact ⟨0, atI_nat (j := 0) rfl, by omega, by omega⟩
      · exact ⟨1, atI_nat (j := 1) rfl, by omega, by omega⟩
      · exact ⟨2, atI_nat (j := 2) rfl, by omega, by omega⟩
      · exact ⟨3, atI_nat (j := 3) rfl, by omega, by omega⟩
      · exact ⟨3, atI_nat (j := 4) rfl, by omega, by omega⟩
      · exact ⟨4, atI_nat (j := 5) rfl, by omega, by omega⟩
      · exact ⟨d1, atI_nat (j := 6) rfl, by omega, by omega⟩
      · exact ⟨mo, atI_nat (j := 7) rfl, by omega, by omega⟩
    obtain ⟨sz, hat, sz0, szm⟩ := hsz
    have kk : Kp p H0 H2 := k1.trans ((Kp.new nl).trans k2)
    refine ⟨l, _, d2, .int sz, rfl, rfl, SqL.of (k2 l _ hlp upd_same), hat, sz, rfl, by omega, by omega, ?_⟩
    refine for_it walk_range (fun i σ H3 => ∃ (B : Br) (y6 y7 : Option V), σ = [some (.ref p), some (.int mo), some (.int hi), some (.ref a), some (.ref b), some (.ref n), y6, y7, none, none, none, none, none, none] ∧ H3 a = some (.dK (bk B)) ∧ H3 b = some (.dT (pt [])) ∧ H3 n = some (.lst ((nms B).map V.str)) ∧
        (nms B).Nodup ∧ B.length = i ∧ (∀ r ∈ B, Nm r.1 ∧ 1 ≤ r.2 ∧ r.2 ≤ 60) ∧ Kp p H H3 ∧ PotAt H3 p)
      ⟨[], none, none, rfl, kk a _ hap ha0, kk b _ hbp hb0, kk n _ hnp hn0, List.nodup_nil, rfl, fun r h => absurd h List.not_mem_nil, k0.trans kk, hP2⟩ (fun _ _ _ _ _ => trivial) ?_ ?_
    · rintro i x σ H3 H3' hi3 ⟨B, y6, y7, rfl, ha3, hb3, hn3, ndB, lB, okB, kp, hP3⟩ ⟨rfl, rfl⟩
      refine ⟨.int (0 + (i : Int)), rfl, .int mo, rfl, _, _, rfl, rfl, _, rfl, ite2 (fun c => ?_) (fun c => ?_)⟩
      · refine ⟨.ref p, rfl, .ref n, rfl, p, n, nms B, rfl, hP3, hn3, by rw [nms_len]; omega, fun z hz => ?_, fun z H4 nz fz hn4 kp4 hP4 => ?_⟩
        · obtain ⟨r, hr', e⟩ := List.mem_map.mp hz
          rw [← e]; exact (okB r hr').1
        have ha4 := kp4 a _ hap han ha3
        have hb4 := kp4 b _ hbp hbn hb3
        refine ⟨.ref p, rfl, .int hi, rfl, .int hi, rfl, 4, hi, rfl, line1000 (by show 2 ≤ 1000; decide), fun l4 nl4 => ?_⟩
        have hlp4 := hP4.ne nl4
        refine ⟨.ref p, rfl, p, 2, rfl, hP4.new nl4, by decide, by decide, fun d5 H5 k5 hP5 d50 d51 => ?_⟩
        have hm : ∃ m : Int, atI [V.int hi, V.int (if hi < 4 then hi else 4)] d5 = some (.int m) ∧ 1 ≤ m ∧ m ≤ 60 := by
          have : d5 = 0 ∨ d5 = 1 := by omega
          rcases this with rfl | rfl
          · exact ⟨hi, atI_nat (j := 0) rfl, hi1, hi60⟩
          · refine ⟨_, atI_nat (j := 1) rfl, ?_, ?_⟩
            · split <;> omega
            · split <;> omega
        obtain ⟨m, hm, m1, m60⟩ := hm
        refine ⟨l4, _, d5, .int m, rfl, rfl, SqL.of (k5 l4 _ hlp4 upd_same), hm, p, m, rfl, hP5, by omega, by omega, fun d6 H6 k6 hP6 d60 d61 => ?_⟩
        have k46 : Kp p H4 H6 := (Kp.new nl4).trans (k5.trans k6)
        refine ⟨1, d6, rfl, rfl, .ref a, rfl, .str z, rfl, a, _, rfl, DPut.k (k := Sum.inr z) (k46 a _ hap ha4) (by rw [bk_len]; exact small1000 (by omega)), ?_⟩
        refine ⟨B ++ [(z, 1 + d6)], _, _, rfl, ?_, ?_, ?_, ?_, ?_, ?_, ?_, ?_⟩
        · rw [upd_same, putK_bk fz]
        · rw [upd_ne (Ne.symm hab)]; exact k46 b _ hbp hb4
        · rw [upd_ne (Ne.symm han), nms_append]; exact k46 n _ hnp hn4
        · rw [nms_append]
          exact List.nodup_append.mpr ⟨ndB, by simp [nms], fun x hx1 y hy1 e => by
            have e2 : y = z := by simpa [nms] using hy1
            exact fz (by rw [← e2, ← e]; exact hx1)⟩
        · rw [List.length_append, lB]; rfl
        · intro r hr'
          rcases List.mem_append.mp hr' with h | h
          · exact okB r h
          · have : r = (z, 1 + d6) := by simpa using h
            subst this
            exact ⟨nz, by show 1 ≤ 1 + d6; omega, by show 1 + d6 ≤ 60; omega⟩
        · intro c o nc e
          have nca : c ≠ a := ne_of_none e na
          have ncn : c ≠ n := ne_of_none e nnH
          rw [upd_ne nca]
          exact k46 c o nc (kp4 c o nc ncn (kp c o nc e))
        · exact hP6.put hap
      · exact absurd (decide_eq_true (by omega)) c
    rintro σ H3 ⟨B, y6, y7, rfl, ha3, hb3, hn3, ndB, lB, okB, kp3, hP3⟩
    have lN : (nms B).length ≤ 12 := by rw [nms_len]; omega
    have wf0 : Wf Nm B [] := ⟨ndB, by omega, okB, List.nodup_nil, Nat.zero_le _, fun r h => absurd h List.not_mem_nil⟩
    have fit0 : Fit B [] := fun r hr' => by
      have := (okB r hr').2.1
      exact ⟨by show (0 : Int) ≤ r.2; omega, by show (0 : Int) ≤ r.2; omega⟩
    -- pipes
    refine ⟨.ref n, rfl, n, rfl, ⟨_, SqL.of hn3⟩, ?_⟩
    refine for_it (walk_list (xs := (nms B).map V.str)) (fun i σ H4 => ∃ (Pp : Pi) (y8 y9 y10 : Option V), σ = [some (.ref p), some (.int mo), some (.int hi), some (.ref a), some (.ref b), some (.ref n), y6, y7, y8, y9, y10, none, none, none] ∧ H4 a = some (.dK (bk B)) ∧ H4 b = some (.dT (pt Pp)) ∧ H4 n = some (.lst ((nms B).map V.str)) ∧
        Wf Nm B Pp ∧ Fit B Pp ∧ (∀ r ∈ Pp, r.1.1 ∈ (nms B).take i) ∧ Pp.length ≤ 12 * i ∧ Kp p H H4 ∧ PotAt H4 p)
      ⟨[], none, none, none, rfl, ha3, hb3, hn3, wf0, fit0, fun r h => absurd h List.not_mem_nil, Nat.zero_le _, kp3, hP3⟩ (fun i σ H4 _ ⟨_, _, _, _, _, _, _, h, _⟩ => SqL.of h) ?_ ?_
    · rintro i v σ H4 H4' hi4 ⟨Pp, y8, y9, y10, rfl, ha4, hb4, hn4, wf4, fit4, old4, len4, kp4, hP4⟩ ⟨rfl, hv⟩
      obtain ⟨x, rfl, hx⟩ := nms_at hv
      have mx : x ∈ nms B := List.mem_of_getElem? hx
      rw [List.length_map] at hi4
      refine ⟨.ref n, rfl, n, rfl, ⟨_, SqL.of hn4⟩, ?_⟩
      refine for_it (walk_list (xs := (nms B).map V.str)) (fun j σ H5 => ∃ (Pp : Pi) (y9 y10 : Option V), σ = [some (.ref p), some (.int mo), some (.int hi), some (.ref a), some (.ref b), some (.ref n), y6, y7, some (.str x), y9, y10, none, none, none] ∧ H5 a = some (.dK (bk B)) ∧ H5 b = some (.dT (pt Pp)) ∧ H5 n = some (.lst ((nms B).map V.str)) ∧
          Wf Nm B Pp ∧ Fit B Pp ∧ (∀ r ∈ Pp, r.1.1 ∈ (nms B).take i ∨ (r.1.1 = x ∧ r.1.2 ∈ (nms B).take j)) ∧ Pp.length ≤ 12 * i + j ∧ Kp p H H5 ∧ PotAt H5 p)
        ⟨Pp, y9, y10, rfl, ha4, hb4, hn4, wf4, fit4, fun r h => .inl (old4 r h), by omega, kp4, hP4⟩ (fun i σ H4 _ ⟨_, _, _, _, _, _, h, _⟩ => SqL.of h) ?_ ?_
      · clear wf4 fit4 old4 len4 kp4 hP4 ha4 hb4 Pp
        rintro j v σ H5 H5' hj5 ⟨Pp, y9, y10, rfl, ha5, hb5, hn5, wf5, fit5, old5, len5, kp5, hP5⟩ ⟨rfl, hv⟩
        obtain ⟨y, rfl, hy⟩ := nms_at hv
        have my : y ∈ nms B := List.mem_of_getElem? hy
        rw [List.length_map] at hj5
        have tkj : (nms B).take (j + 1) = (nms B).take j ++ [y] := by rw [List.take_add_one, hy]; rfl
        have up : ∀ r ∈ Pp, r.1.1 ∈ (nms B).take i ∨ (r.1.1 = x ∧ r.1.2 ∈ (nms B).take (j + 1)) := fun r h => (old5 r h).imp id fun ⟨h1, h2⟩ => ⟨h1, by rw [tkj]; exact List.mem_append_left _ h2⟩
        refine ⟨.str x, rfl, .str y, rfl, rfl, _, rfl, ?_⟩
        rw [decStr]
        refine ite2 (fun c => ?_) (fun c => ?_)
        · refine ⟨.int 0, rfl, 0, 0, rfl, rfl, _, rfl, iteF (iteF ?_)⟩
          exact ⟨Pp, _, _, rfl, ha5, hb5, hn5, wf5, fit5, up, by omega, kp5, hP5⟩
        · have nxy : x ≠ y := fun e => c (decide_eq_true e)
          obtain ⟨cx, gx⟩ := getB_some mx
          obtain ⟨cy, gy⟩ := getB_some my
          refine ⟨.ref a, rfl, .ref b, rfl, .str x, rfl, .str y, rfl, a, b, B, Pp, x, y, cx, cy, rfl, ha5, hb5, wf5.np, wf5.lp, gx, gy, fun H6 s6 => ?_⟩
          obtain ⟨rm, hrm⟩ : ∃ rm, rm = if cy - inW Pp y < cx - outW Pp x then cy - inW Pp y else cx - outW Pp x := ⟨_, rfl⟩
          rw [← hrm]
          have r1 : rm ≤ cx - outW Pp x := by rw [hrm]; split <;> omega
          have r2 : rm ≤ cy - inW Pp y := by rw [hrm]; split <;> omega
          have ha6 := s6 a _ ha5
          have hb6 := s6 b _ hb5
          have hn6 := s6 n _ hn5
          have kp6 : Kp p H H6 := kp5.trans (Kp.of_same s6)
          have hP6 := hP5.same s6
          refine ⟨.int rm, rfl, rm, 0, rfl, rfl, _, rfl, ite2 (fun c1 => ?_) (fun c1 => ?_)⟩
          · have rpos : 0 < rm := of_decide_eq_true c1
            have cx60 := (wf5.rb _ (getB_mem gx)).2.2
            have out0 : 0 ≤ outW Pp x := sumOf_nonneg fun r hr' => by have := (wf5.rp r hr').2.2.2.1; omega
            have rm60 : rm ≤ 60 := by
              have cx60' : cx ≤ 60 := cx60
              omega
            refine ⟨.ref p, rfl, p, 3, rfl, hP6, by decide, by decide, fun d7 H7 k7 hP7 d70 d71 => ?_⟩
            refine ⟨_, _, rfl, rfl, _, rfl, ite2 (fun c2 => ?_) (fun c2 => ?_)⟩
            · refine ⟨.ref p, rfl, .int rm, rfl, p, rm, rfl, hP7, rpos, by omega, fun d8 H8 k8 hP8 d80 d81 => ?_⟩
              refine ⟨1, d8, rfl, rfl, .int rm, rfl, line1000 (by show 3 ≤ 1000; decide), fun l8 nl8 => ?_⟩
              have hlp8 := hP8.ne nl8
              refine ⟨.ref p, rfl, p, 3, rfl, hP8.new nl8, by decide, by decide, fun d9 H9 k9 hP9 d90 d91 => ?_⟩
              have hm : ∃ m : Int, atI [V.int (1 + d8), V.int rm, V.int 1] d9 = some (.int m) ∧ 1 ≤ m ∧ m ≤ rm := by
                have : d9 = 0 ∨ d9 = 1 ∨ d9 = 2 := by omega
                rcases this with rfl | rfl | rfl
                · exact ⟨1 + d8, atI_nat (j := 0) rfl, by omega, by omega⟩
                · exact ⟨rm, atI_nat (j := 1) rfl, by omega, by omega⟩
                · exact ⟨1, atI_nat (j := 2) rfl, by omega, by omega⟩
              obtain ⟨m, hm, m1, m2⟩ := hm
              refine ⟨l8, _, d9, .int m, rfl, rfl, SqL.of (k9 l8 _ hlp8 upd_same), hm, ?_⟩
              have k69 : Kp p H6 H9 := k7.trans (k8.trans ((Kp.new nl8).trans k9))
              have hb9 := k69 b _ hbp hb6
              refine ⟨.ref b, rfl, .str x, rfl, .str y, rfl, line1000 (by show 2 ≤ 1000; decide), fun t nt => ?_⟩
              have s9 : Same H9 (upd H9 t (.tup [.str x, .str y])) := same_new nt
              have fr : (x, y) ∉ Pp.map Prod.fst := fun hm' => by
                obtain ⟨r, hr', e⟩ := List.mem_map.mp hm'
                have e1 : r.1 = (x, y) := e
                rcases old5 r hr' with h | ⟨_, h⟩
                · rw [e1] at h
                  exact take_nd ndB hx h
                · rw [e1] at h
                  exact take_nd ndB hy h
              refine ⟨b, _, rfl, DPut.t (k := Rl.pk (x, y)) (s9 b _ hb9) upd_same (by rw [pt_len]; exact small1000 (by omega)), ?_⟩
              refine ⟨Pp ++ [((x, y), m)], _, _, rfl, ?_, ?_, ?_, wf_add wf5 mx my nxy m1 (by omega) fr (by omega), fit_add wf5 fit5 gx gy (by omega) (by omega) m1, ?_, ?_, ?_, ?_⟩
              · rw [upd_ne hab]; exact s9 a _ (k69 a _ hap ha6)
              · rw [upd_same, putK_pt fr]
              · rw [upd_ne (Ne.symm hbn)]; exact s9 n _ (k69 n _ hnp hn6)
              · intro r hr'
                rcases List.mem_append.mp hr' with h | h
                · exact up r h
                · have : r = ((x, y), m) := by simpa using h
                  subst this
                  exact .inr ⟨rfl, by rw [tkj]; exact List.mem_append_right _ (List.mem_singleton.mpr rfl)⟩
              · rw [List.length_append]
                show Pp.length + 1 ≤ _
                omega
              · intro c' o nc e
                have ncb : c' ≠ b := ne_of_none e nbH
                rw [upd_ne ncb]
                exact s9 c' o (k69 c' o nc (kp6 c' o nc e))
              · exact (hP9.same s9).put hbp
            · exact ⟨Pp, _, _, rfl, k7 a _ hap ha6, k7 b _ hbp hb6, k7 n _ hnp hn6, wf5, fit5, up, by omega, kp6.trans k7, hP7⟩
          · exact iteF ⟨Pp, _, _, rfl, ha6, hb6, hn6, wf5, fit5, up, by omega, kp6, hP6⟩
      · rintro σ H5 ⟨Pp, y9, y10, rfl, ha5, hb5, hn5, wf5, fit5, old5, len5, kp5, hP5⟩
        rw [List.length_map] at len5
        refine ⟨Pp, _, _, _, rfl, ha5, hb5, hn5, wf5, fit5, fun r hr' => ?_, by omega, kp5, hP5⟩
        rw [List.take_add_one, hx]
        rcases old5 r hr' with h | ⟨h, _⟩
        · exact List.mem_append_left _ h
        · rw [h]; exact List.mem_append_right _ (List.mem_singleton.mpr rfl)
    rintro σ H4 ⟨Pp, y8, y9, y10, rfl, ha4, hb4, hn4, wf4, fit4, old4, len4, kp4, hP4⟩
    clear old4 len4
    -- ways out
    refine ⟨.ref n, rfl, n, _, rfl, .inl (SqL.of hn4), _, rfl, by rw [List.length_map]; omega, by rw [List.length_map]; omega, ?_⟩
    refine for_it walk_range (fun i σ H5 => ∃ (Pp : Pi) (y8 y11 y12 : Option V), σ = [some (.ref p), some (.int mo), some (.int hi), some (.ref a), some (.ref b), some (.ref n), y6, y7, y8, y9, y10, y11, y12, none] ∧ H5 a = some (.dK (bk B)) ∧ H5 b = some (.dT (pt Pp)) ∧
        Wf Nm B Pp ∧ Fit B Pp ∧ Few B Pp (B.length - i) ∧ Kp p H H5 ∧ PotAt H5 p)
      ⟨Pp, y8, none, none, rfl, ha4, hb4, wf4, fit4, few_all, kp4, hP4⟩ (fun _ _ _ _ _ => trivial) ?_ ?_
    · clear wf4 fit4 kp4 hP4 ha4 hb4 Pp
      rintro i x σ H5 H5' hi5 ⟨Pp, y8, y11, y12, rfl, ha5, hb5, wf5, fit5, few5, kp5, hP5⟩ ⟨rfl, rfl⟩
      have hi5' : i < B.length := by
        rw [List.length_map, nms_len] at hi5
        omega
      refine ⟨.ref a, rfl, .ref b, rfl, a, b, B, Pp, rfl, ha5, hb5, wf5, fit5, fun r L H6 s6 nr hr6 ndL memL => ?_⟩
      have nL : ∀ z ∈ L, Sm 25 z := fun z hz => by
        obtain ⟨u, hu', e⟩ := List.mem_map.mp ((memL z).mp hz).1
        rw [← (show u.1 = z from e)]
        exact (wf5.rb u hu').1.sm.mono (by decide)
      refine ⟨.ref r, rfl, Nat.zero_le _, fun e ne => ?_⟩
      have s7 : Same H6 (upd H6 e (.lst [])) := same_new ne
      have s57 := s6.trans s7
      obtain ⟨H7, hH7⟩ : ∃ H7, H7 = upd H6 e (.lst []) := ⟨_, rfl⟩
      refine ne_nil (s7 r _ hr6) upd_same nL ?_
      rw [← hH7] at s7 s57 ⊢
      have hP7 := hP5.same s57
      have hrp : r ≠ p := hP5.ne nr
      refine ⟨_, rfl, ite2 (fun c => ?_) (fun c => ?_)⟩
      · have hL0 : 0 < L.length := List.length_pos_iff.mpr fun z => by subst z; exact absurd c (by decide)
        have lL : L.length ≤ 12 := by
          have := len_le_of_sub ndL (m := nms B) fun z hz => ((memL z).mp hz).1
          omega
        refine ⟨.ref r, rfl, .ref p, rfl, .ref r, rfl, r, _, rfl, .inl (SqL.of (s7 r _ hr6)), p, _, rfl, hP7, by rw [List.length_map]; omega, by rw [List.length_map]; omega, fun d H8 k8 hP8 d0 d1 => ?_⟩
        rw [List.length_map] at d1
        obtain ⟨x, hx, mx⟩ := str_at d0 d1
        obtain ⟨mxB, cx⟩ := (memL x).mp mx
        refine ⟨r, _, d, .str x, rfl, rfl, SqL.of (k8 r _ hrp (s7 r _ hr6)), hx, ?_⟩
        have ha8 := k8 a _ hap (s57 a _ ha5)
        have hb8 := k8 b _ hbp (s57 b _ hb5)
        refine ⟨.ref b, rfl, .inr (.inr (.inl ⟨rfl, .inr ⟨_, hb8⟩⟩)), .ref b, rfl, b, pt Pp, Pp.map Prod.fst, rfl, .inl hb8, ?_, ?_, fun qs e8 pm _ hq ne8 => ?_⟩
        · unfold pt
          rw [List.map_map, List.map_map]; rfl
        · rw [List.length_map]; have := wf5.lp; omega
        have lq : qs.length ≤ 900 := by
          have h1 := pm.length_eq
          rw [List.length_map, List.length_map] at h1
          have := wf5.lp
          omega
        have s9 : Same H8 (upd H8 e8 (.lst (qs.map fun q => V.ref q.1))) := same_new ne8
        refine ⟨e8, rfl, ⟨_, SqL.of upd_same⟩, fun D nD => ?_⟩
        refine pair_lc (K := K) (z := x) lq upd_same nD (fun q hq' => s9 _ _ (hq q hq')) (fun _ => rfl) (fun _ => rfl) (fun _ => rfl) fun H9 hD9 sm9 => ?_
        have s89 := s9.trans sm9
        obtain ⟨y, v, hpipe⟩ := closed_pipe wf5 mxB cx
        cases hf : qs.filter fun q => decide (q.2.1 = x) with
        | nil =>
          have hm : (x, y) ∈ qs.map (·.2) := pm.mem_iff.mpr (List.mem_map.mpr ⟨_, hpipe, rfl⟩)
          obtain ⟨q0, hq0, e0⟩ := List.mem_map.mp hm
          have : q0 ∈ qs.filter fun q => decide (q.2.1 = x) := List.mem_filter.mpr ⟨hq0, decide_eq_true (by rw [e0])⟩
          rw [hf] at this
          exact absurd this List.not_mem_nil
        | cons q0 rest =>
          rw [hf] at hD9
          have hq0 : q0 ∈ qs.filter fun q => decide (q.2.1 = x) := by rw [hf]; exact List.mem_cons_self
          obtain ⟨m1, m2⟩ := List.mem_filter.mp hq0
          have e1 : q0.2.1 = x := of_decide_eq_true m2
          have hm : q0.2 ∈ Pp.map Prod.fst := pm.mem_iff.mp (List.mem_map.mpr ⟨q0, m1, rfl⟩)
          obtain ⟨pp, hpp, epp⟩ := List.mem_map.mp hm
          have epp' : pp.1 = q0.2 := epp
          have hpq : ((x, q0.2.2), pp.2) ∈ Pp := by
            have : pp = ((x, q0.2.2), pp.2) := by
              rw [← e1]
              show pp = (q0.2, pp.2)
              rw [← epp']
            rw [← this]; exact hpp
          have hT := s89 _ _ (hq q0 m1)
          rw [e1] at hT
          refine ⟨D, _, 0, .ref q0.1, rfl, rfl, SqL.of hD9, atI_nat (j := 0) rfl, b, pt Pp, Rl.pk (x, q0.2.2), q0.1, .int pp.2, rfl, rfl, s89 b _ hb8, hT, ?_, ?_⟩
          · rw [valV_pt, getP_of_mem wf5.np hpq]; rfl
          · rw [drop_pt]
            refine ⟨less Pp (x, q0.2.2), _, _, _, rfl, ?_, upd_same, wf_less wf5 _, fit_less wf5 fit5 _, ?_, ?_, ?_⟩
            · rw [upd_ne hab]; exact s89 a _ ha8
            · have : B.length - i = (B.length - (i + 1)) + 1 := by omega
              rw [this] at few5
              exact few_less wf5 fit5 hpq cx few5
            · intro c' o nc e'
              have ncb : c' ≠ b := ne_of_none e' nbH
              rw [upd_ne ncb]
              exact s89 c' o (k8 c' o nc (s57 c' o (kp5 c' o nc e')))
            · exact (hP8.same s89).put hbp
      · have hL : L = [] := by
          cases L with
          | nil => rfl
          | cons x y => exact absurd rfl c
        subst hL
        refine ⟨Pp, _, _, _, rfl, s57 a _ ha5, s57 b _ hb5, wf5, fit5, few_none (fun x hx => ?_) _, kp5.trans (Kp.of_same s57), hP7⟩
        by_cases o : Opn B Pp x
        · exact o
        · exact absurd ((memL x).mpr ⟨hx, o⟩) List.not_mem_nil
    · rintro σ H5 ⟨Pp, y8, y11, y12, rfl, ha5, hb5, wf5, fit5, few5, kp5, hP5⟩
      have e0 : B.length - (((((nms B).map V.str).length : Nat) : Int)).toNat = 0 := by
        rw [List.length_map, nms_len]; omega
      rw [e0] at few5
      refine ⟨.ref a, rfl, .ref b, rfl, line1000 (by show 2 ≤ 1000; decide), fun t nt => ?_⟩
      have st : Same H5 (upd H5 t (.tup [.ref a, .ref b])) := same_new nt
      have ntH : H t = none := by
        cases e : H t with
        | none => rfl
        | some o =>
          have htp : t ≠ p := hP5.ne nt
          have := kp5 t o htp e
          rw [nt] at this; cases this
      exact q t a b B Pp _ (kp5.trans (Kp.of_same st)) (hP5.same st) ntH na nbH upd_same (st a _ ha5) (st b _ hb5) ⟨wf5, fit5, few_zero few5⟩
end
end Nl
end
section
set_option maxHeartbeats 1000000
namespace Nl
open PySem PySem.Spec PyProof.Rows L2 Nt
section
variable {P : Program} {w : World} {K : PySem.W.Frag} {mg : Str → Option Value} {base : Heap}
theorem scOuts : FnScope ["self", "name"] ["self", "name"] (defScope mNet_outs) := ⟨rfl, rfl, rfl, by decide +kernel, rfl, by decide +kernel, by decide +kernel⟩
def spOuts (C : Addr) : Sp := fun vs H Q _ => ∃ (n : Addr) (B : Br) (Pp : Pi) (z : Str), vs = [.ref n, .str z] ∧ NetAt C H n B Pp ∧ Good B Pp ∧ Nm z ∧ z ∈ nms B ∧
  ∀ H' p as, Same H H' → H p = none → H' p = some (.lst (as.map V.ref)) → PairsAt H' as (outsOf Pp z) → Q (.ref p) H'
theorem ok_outs {f C f1 : Addr} {fd fd1 : FuncData} (F : Fun K "outs" "Net.outs" mNet_outs f fd) (T : TxN K mg C) (m1 : Meth K C "check_pond" f1) (G1 : FnOk P w K mg base CX0 4 f1 fd1 ["self", "thing"] (spChk C)) (b1 : Binds K fd1 ["self", "thing"] []) (ml : mg "list" = none) :
    FnOk P w K mg base CX0 5 f fd ["self", "name"] (spOuts C) := by
  refine F.ok scOuts (fun vs H Q E h => ?_) (fun cdv A outer s H vs Q E hr h => ?_)
  · obtain ⟨n, B, Pp, z, rfl, _⟩ := h
    rfl
  · obtain ⟨n, B, Pp, z, rfl, N, good, nz, mz, q⟩ := h
    obtain ⟨dx, d1, d2, hn, h1, h2, h3, h4⟩ := N.at_
    refine ⟨_, pss_cons (ps_expr (pe_meth (pv 0) T.cl m1 G1 hr b1 .nil pass0 (pa_cons (pv 1) pa_nil))) (pss_one (ps_ret (pe_callTy call_list_of (by rfl) ml (by decide +kernel) (pa_cons (pe_dget (hu_of hr) (pe_fld (pv 0) rfl) (pv 1) (fun _ _ => rfl)) pa_nil)))), ?_⟩
    refine ⟨.ref n, rfl, n, dx, _, rfl, hn, no_attr, .str z, rfl, n, B, Pp, z, rfl, N, nz, mz, fun H1 s1 => ?_⟩
    obtain ⟨kvs, p, as, od, e1, e2, e3, e4⟩ := (h3.same s1).val good.wf.nb mz
    refine ⟨.ref n, rfl, n, C, dx, _, _, rfl, s1 n _ hn, T.cl, T.nO, nf_o d1 d2, .str z, rfl, d2.o, .ref p, rfl, .inl ⟨_, Sum.inr z, .inl e1, rfl, e2.symm⟩, p, _, rfl, .inl (.inl (.inr ⟨od, e3⟩)), fun l nl => ?_⟩
    have sn := same_new (o := .lst (as.map V.ref)) nl
    exact q _ l as (s1.trans sn) (s1.free nl) upd_same (e4.same sn)
end
end Nl
end
section
set_option maxHeartbeats 4000000
namespace Nl
open PySem PySem.Spec PyProof.Rows L2 Nt
/-! ### how far a pond is from one that soaks -/
inductive OpnN (B : Br) (P : Pi) : Nat → Str → Prop
  | soak {x : Str} {b : Int} : (x, b) ∈ B → outW P x < b → OpnN B P 0 x
  | step {x y : Str} {w : Int} {k : Nat} : ((x, y), w) ∈ P → OpnN B P k y → OpnN B P (k + 1) x
theorem opn_num {B : Br} {P : Pi} {x : Str} (h : Opn B P x) : ∃ k, OpnN B P k x := by
  induction h with
  | soak h1 h2 => exact ⟨0, .soak h1 h2⟩
  | step h1 _ ih => obtain ⟨k, hk⟩ := ih; exact ⟨k + 1, .step h1 hk⟩
theorem least {p : Nat → Prop} (h : ∃ k, p k) : ∃ k, p k ∧ ∀ j, p j → k ≤ j := by
  obtain ⟨k, hk⟩ := h
  induction k using Nat.strongRecOn with
  | _ k ih =>
    by_cases c : ∃ j, j < k ∧ p j
    · obtain ⟨j, h1, h2⟩ := c
      exact ih j h1 h2
    · refine ⟨k, hk, fun j hj => ?_⟩
      rcases Nat.lt_or_ge j k with z | z
      · exact absurd ⟨j, z, hj⟩ c
      · exact z
def Dst (B : Br) (P : Pi) (x : Str) (d : Nat) : Prop := OpnN B P d x ∧ ∀ m, m < d → ¬ OpnN B P m x
theorem Dst.uniq {B : Br} {P : Pi} {x : Str} {d e : Nat} (h : Dst B P x d) (k : Dst B P x e) : d = e := by
  rcases Nat.lt_trichotomy d e with c | c | c
  · exact absurd h.1 (k.2 d c)
  · exact c
  · exact absurd k.1 (h.2 e c)
theorem opnN_in {B : Br} {P : Pi} (wf : Wf Nm B P) {x : Str} {d : Nat} (h : OpnN B P d x) : x ∈ nms B := by
  cases h with
  | soak h1 h2 => exact List.mem_map.mpr ⟨_, h1, rfl⟩
  | step h1 h2 => exact (wf.rp _ h1).1
theorem opnN_opn {B : Br} {P : Pi} {x : Str} {d : Nat} (h : OpnN B P d x) : Opn B P x := by
  induction h with
  | soak h1 h2 => exact .soak h1 h2
  | step h1 _ ih => exact .step h1 ih
theorem dst_of {B : Br} {P : Pi} {x : Str} (h : Opn B P x) : ∃ d, Dst B P x d := by
  obtain ⟨k, h1, h2⟩ := least (opn_num h)
  exact ⟨k, h1, fun m hm c => by have := h2 m c; omega⟩
theorem Dst.back {B : Br} {P : Pi} {x : Str} {d : Nat} (h : Dst B P x (d + 1)) : ∃ y w, ((x, y), w) ∈ P ∧ Dst B P y d := by
  obtain ⟨h1, h2⟩ := h
  cases h1 with
  | step hp hy => exact ⟨_, _, hp, hy, fun m hm c => h2 (m + 1) (by omega) (.step hp c)⟩
/-- one pipe further -/
theorem Dst.on {B : Br} {P : Pi} {x y : Str} {w : Int} {d : Nat} (hp : ((x, y), w) ∈ P) (h : Dst B P y d) : ∃ e, e ≤ d + 1 ∧ Dst B P x e := by
  obtain ⟨e, h1, h2⟩ := least (p := fun k => OpnN B P k x) ⟨d + 1, .step hp h.1⟩
  exact ⟨e, h2 _ (.step hp h.1), h1, fun m hm c => by have := h2 m c; omega⟩
/-- the ponds found so far, with their steps; those found last -/
structure BfsD (B : Br) (P : Pi) (S : Br) (E : List Str) (n : Nat) : Prop where
  nd : (nms S).Nodup
  sub : ∀ x ∈ nms S, x ∈ nms B
  all : ∀ x d, Dst B P x d → d ≤ n → x ∈ nms S
  val : ∀ p ∈ S, ∃ d : Nat, d ≤ n ∧ p.2 = (d : Int) ∧ Dst B P p.1 d
  edge : ∀ x, x ∈ E ↔ Dst B P x n
theorem BfsD.next {B : Br} {P : Pi} (wf : Wf Nm B P) {S : Br} {E E' : List Str} {n : Nat} (h : BfsD B P S E n) (nd' : E'.Nodup) (he : ∀ x, x ∈ E' ↔ (∃ y w, ((x, y), w) ∈ P ∧ y ∈ E) ∧ x ∉ nms S) : BfsD B P (S ++ E'.map fun x => (x, (n : Int) + 1)) E' (n + 1) := by
  have e1 : nms (S ++ E'.map fun x => (x, (n : Int) + 1)) = nms S ++ E' := by
    rw [nms_append]
    unfold nms
    rw [List.map_map]
    congr 1
    exact List.map_id' E'
  have ed : ∀ x, x ∈ E' ↔ Dst B P x (n + 1) := fun x => by
    rw [he x]
    constructor
    · rintro ⟨⟨y, w, hp, hy⟩, nx⟩
      obtain ⟨e, le, de⟩ := Dst.on hp ((h.edge y).mp hy)
      rcases Nat.lt_or_ge n e with c | c
      · have : e = n + 1 := by omega
        rw [← this]; exact de
      · exact absurd (h.all x e de c) nx
    · intro d
      obtain ⟨y, w, hp, hy⟩ := d.back
      refine ⟨⟨y, w, hp, (h.edge y).mpr hy⟩, fun m => ?_⟩
      obtain ⟨p, mp, ep⟩ := List.mem_map.mp m
      obtain ⟨k, lk, _, dk⟩ := h.val p mp
      rw [ep] at dk
      have := dk.uniq d
      omega
  refine ⟨?_, ?_, ?_, ?_, ed⟩
  · rw [e1, List.nodup_append]
    exact ⟨h.nd, nd', fun a ha b hb c => ((he b).mp hb).2 (c ▸ ha)⟩
  · rw [e1]
    intro x hx
    rcases List.mem_append.mp hx with hx | hx
    · exact h.sub x hx
    · exact opnN_in wf ((ed x).mp hx).1
  · intro x d dx ld
    rw [e1]
    rcases Nat.lt_or_ge n d with c | c
    · have : d = n + 1 := by omega
      subst this
      exact List.mem_append_right _ ((ed x).mpr dx)
    · exact List.mem_append_left _ (h.all x d dx c)
  · intro p hp
    rcases List.mem_append.mp hp with hp | hp
    · obtain ⟨d, ld, e, dd⟩ := h.val p hp
      exact ⟨d, by omega, e, dd⟩
    · obtain ⟨x, hx, rfl⟩ := List.mem_map.mp hp
      exact ⟨n + 1, Nat.le_refl _, by show (n : Int) + 1 = _; omega, (ed x).mp hx⟩
theorem BfsD.done {B : Br} {P : Pi} {S : Br} {n : Nat} (h : BfsD B P S [] n) {x : Str} (o : Opn B P x) : x ∈ nms S := by
  have no : ∀ k y, ¬ Dst B P y (n + k) := fun k => by
    induction k with
    | zero => exact fun y d => List.not_mem_nil ((h.edge y).mpr d)
    | succ k ih =>
      intro y d
      obtain ⟨z, w, hp, hz⟩ := Dst.back (d := n + k) d
      exact ih z hz
  obtain ⟨d, dx⟩ := dst_of o
  rcases Nat.lt_or_ge n d with c | c
  · exact absurd (show Dst B P x (n + (d - n)) by rw [Nat.add_sub_cancel' (by omega)]; exact dx) (no _ x)
  · exact h.all x d dx c
section
variable {P : Program} {w : World} {K : PySem.W.Frag} {mg : Str → Option Value} {base : Heap}
def spStepsD : Sp := fun vs H Q _ => ∃ (a b : Addr) (B : Br) (Pp : Pi), vs = [.ref a, .ref b] ∧ H a = some (.dK (bk B)) ∧ H b = some (.dT (pt Pp)) ∧ Wf Nm B Pp ∧
  ∀ (H' : Hp) (p : Addr) (S : Br), Same H H' → H p = none → H' p = some (.dK (bk S)) → (nms S).Nodup → (∀ x, x ∈ nms S ↔ x ∈ nms B ∧ Opn B Pp x) → (∀ p ∈ S, ∃ d : Nat, p.2 = (d : Int) ∧ Dst B Pp p.1 d) → Q (.ref p) H'
theorem ok_stepsD {f fG : Addr} {fd fdG : FuncData} (F : Fun K "steps_out" "steps_out" sSteps f fd) (FG : Fun K "goes_out" "goes_out" sGoes fG fdG) (GG : FnOk P w K mg base CX0 1 fG fdG ["pipes", "name"] spGoes) (bG : Binds K fdG ["pipes", "name"] []) (gG : mg "goes_out" = some (.ref fG))
    (ms : mg "sorted" = none) : FnOk P w K mg base CX0 2 f fd ["brims", "pipes"] spStepsD := by
  refine F.ok scSteps (fun vs H Q E h => ?_) (fun cdv A outer s H vs Q E hr h => ?_)
  · obtain ⟨a, b, B, Pp, rfl, _⟩ := h
    rfl
  · obtain ⟨a, b, B, Pp, rfl, hA, hB, wf, q⟩ := h
    have hu := hu_of hr
    refine ⟨_, pss_cons (ps_set (i := 2) scSteps.nd rfl (Or.inr rfl) (pe_lock (Rl.pe_dcP (T := .dK []) (own := [("name", 5)]) (g := gName 5) (.inr rfl) hr rfl scSteps.nd (pi_keys (pv 0))
        (blkOk_by (N := ["brims", "pipes", "steps", "far", "edge", "name", "one", "other"]) (sc := defScope sSteps) (by decide +kernel)) (fun _ _ _ _ _ => pg_name (i := 5) scSteps.nd rfl (Or.inl rfl))
        (fun _ _ _ _ _ => pts_one (pt_cmpR op_lt (pe_call GG hr (by rfl) gG FG.kp bG .nil pass0 (pa_cons (pv 1) (pa_cons (pv 5) pa_nil))) (pe_dget hu (pv 0) (pv 5) (fun _ _ => rfl)) (nomark _)))
        (fun _ _ _ _ _ => pv 5) (fun _ _ _ _ _ => pe_int))))
      (pss_cons (ps_set (i := 3) scSteps.nd rfl (Or.inl rfl) pe_int)
      (pss_cons (ps_set (i := 4) scSteps.nd rfl (Or.inr rfl) (pe_callB (call_sortedD rfl) (by rfl) ms (by decide +kernel) (pa_cons (pv 2) pa_nil)))
      (pss_cons (ps_while PassesOwn.never (pt_truth (pv 4) (by intro _; rfl))
        (pss_cons (ps_aug (i := 3) scSteps.nd rfl (.inl rfl) pe_int ip_add)
        (pss_cons (ps_set (i := 4) scSteps.nd rfl (Or.inr rfl) (pe_callB (Rl.call_sortX rfl) (by rfl) ms (by decide +kernel) (pa_cons (pe_lock (Rl.pe_scX (own := [("one", 6), ("other", 7)])
          (g := gTup K 2 (gCons (gName 6) (gCons (gName 7) gNil))) (tt := tAnd (tTest (tOp (rIn K false) (tVar 7) (tVar 4))) (tB (tDNotIn (tVar 6) (tVar 2)))) rfl scSteps.nd (pi_keys (pv 1))
          (blkOk_by (N := ["brims", "pipes", "steps", "far", "edge", "name", "one", "other"]) (sc := defScope sSteps) (by decide +kernel))
          (fun _ _ _ _ _ => pg_tup rfl (pgs_cons (pg_name (i := 6) scSteps.nd rfl (Or.inl rfl)) (pgs_cons (pg_name (i := 7) scSteps.nd rfl (Or.inl rfl)) pgs_nil)))
          (fun _ _ _ _ _ => pts_one (PW.pt (pw_and (pt_cmpR op_in_seq (pv 7) (pv 4) (by rfl)) (pw_and1 (pt_cmp (pc_dnotin hu (pv 6) (pv 2)))))))
          (fun _ _ _ _ _ => pv 6))) pa_nil)))
        (pss_one (ps_for PassesOwn.never rfl (pi_list (pv 4)) (pg_name (i := 5) scSteps.nd rfl (Or.inl rfl)) (pss_one (ps_dput hu (pv 2) (pv 5) (pv 3) rfl)))))))
      (pss_one (ps_ret (pv 2)))))), ?_⟩
    -- steps = {..}
    refine ⟨a, _, hA, trivial, fun od => ?_⟩
    refine ⟨.ref a, rfl, a, od, rfl, .inl ⟨_, upd_same, fun D nD => ?_⟩⟩
    have hDa : D ≠ a := fun e => by subst e; rw [upd_same] at nD; cases nD
    have nDH : H D = none := by rw [upd_ne hDa] at nD; exact nD
    have hba : b ≠ a := fun e => by subst e; rw [hA] at hB; cases hB
    refine Rl.gc_it (n := (bk B).length) (b0 := fun _ => .dK []) walk_keys (fun i H1 => H1 D = some (.dK (bk (soakers B Pp (B.take i)))) ∧ Same (upd H a (.frz od (.dK (bk B)))) H1) ⟨upd_same, same_new nD⟩ (fun i H1 _ h => h.2 a _ upd_same) ?_ ?_
    · rintro i x H1 H1' hi ⟨hD, sm⟩ ⟨rfl, kk, v, hkv, rfl⟩
      obtain ⟨p, hp, rfl, rfl⟩ := bk_at hkv
      have hm : p ∈ B := List.mem_of_getElem? hp
      have hB1 : H1' b = some (.dT (pt Pp)) := sm b _ (by rw [upd_ne hba]; exact hB)
      refine ⟨rfl, .ref b, rfl, .str p.1, rfl, b, Pp, p.1, rfl, hB1, wf.np, wf.lp, fun H2 s2 => ?_⟩
      refine ⟨.ref a, rfl, .str p.1, rfl, a, .int p.2, rfl, .inl ⟨_, Sum.inr p.1, .inr ⟨od, s2 a _ (sm a _ upd_same)⟩, rfl, ?_⟩, _, _, rfl, rfl, _, rfl, ?_⟩
      · rw [valV_bk, getB_of_mem wf.nb hm]; rfl
      · have il : i < B.length := (List.getElem?_eq_some_iff.mp hp).1
        have ndT : (nms (B.take i)).Nodup := List.Nodup.sublist (List.Sublist.map Prod.fst (List.take_sublist i B)) wf.nb
        have fresh : p.1 ∉ nms (B.take i) := by
          intro z
          have h2 : (nms (B.take (i + 1))).Nodup := List.Nodup.sublist (List.Sublist.map Prod.fst (List.take_sublist (i + 1) B)) wf.nb
          rw [List.take_add_one, hp] at h2
          have h3 : (nms (B.take i) ++ [p.1]).Nodup := by
            have := nms_append (B.take i) [p]
            rw [show (some p).toList = [p] from rfl, this] at h2
            exact h2
          rw [List.nodup_append] at h3
          exact h3.2.2 p.1 z p.1 (List.mem_singleton.mpr rfl) rfl
        refine ite2 (fun e => ?_) (fun e => ?_)
        · have e' : outW Pp p.1 < p.2 := of_decide_eq_true e
          have ns : p.1 ∉ nms (soakers B Pp (B.take i)) := fun z => by
            obtain ⟨c, hc, _⟩ := soakers_mem.mp z
            exact fresh (List.mem_map.mpr ⟨_, hc, rfl⟩)
          refine ⟨.str p.1, rfl, _, DPut.k (k := Sum.inr p.1) (s2 D _ hD) ?_, ?_, ?_⟩
          · rw [bk_len]
            refine small1000 (Nat.le_trans (?_ : _ ≤ B.length) (by have := wf.lb; omega))
            unfold soakers
            rw [List.length_map]
            refine Nat.le_trans (List.length_filter_le _ _) ?_
            rw [List.length_take]; omega
          · rw [upd_same, putK_bk ns, List.take_add_one, hp]
            unfold soakers
            rw [List.filter_append, List.map_append]
            show some (HO.dK (bk (_ ++ [(p.1, 0)]))) = some (HO.dK (bk (_ ++ List.map _ (List.filter _ [p]))))
            rw [List.filter_cons, if_pos (decide_eq_true e')]
            rfl
          · exact fun c o ec => by
              have nb : c ≠ D := ne_of_none ec nD
              rw [upd_ne nb]; exact s2 c o (sm c o ec)
        · refine ⟨?_, sm.trans s2⟩
          rw [s2 D _ hD, List.take_add_one, hp]
          unfold soakers
          rw [List.filter_append, List.map_append]
          show _ = some (HO.dK (bk (_ ++ List.map _ (List.filter _ [p]))))
          have e' : ¬ (decide (outW Pp p.1 < p.2) = true) := e
          rw [List.filter_cons, if_neg e']
          simp
    · rintro H1 ⟨hD, sm⟩
      obtain ⟨l1, sH⟩ := same_lock hA sm
      refine ⟨l1, ?_⟩
      rw [bk_len, List.take_length] at hD
      have hD2 : (upd H1 a (.dK (bk B))) D = some (.dK (bk (soakers B Pp B))) := by rw [upd_ne hDa]; exact hD
      obtain ⟨H2, hH2⟩ : ∃ H2, H2 = upd H1 a (.dK (bk B)) := ⟨_, rfl⟩
      rw [← hH2] at hD2 sH ⊢
      -- edge = sorted(steps)
      refine ⟨.ref D, rfl, D, _, nms (soakers B Pp B), rfl, .inl hD2, ?_, ?_, fun ys e0 pm _ ne0 => ?_⟩
      · unfold bk nms
        rw [List.map_map, List.map_map]; rfl
      · have h1 := len_le_of_sub (soakers_nd (B := B) (Pp := Pp) wf.nb) (m := nms B) (fun x hx => by
          obtain ⟨c, hc, _⟩ := soakers_mem.mp hx
          exact List.mem_map.mpr ⟨_, hc, rfl⟩)
        have h2 : (nms B).length = B.length := List.length_map _
        have := wf.lb
        omega
      have e0D : e0 ≠ D := Ne.symm (ne_of_none hD2 ne0)
      have d0 : ∀ x, x ∈ nms (soakers B Pp B) ↔ Dst B Pp x 0 := fun x => by
        rw [soakers_mem]
        constructor
        · rintro ⟨c, hc, hl⟩
          exact ⟨.soak hc hl, fun m hm => absurd hm (Nat.not_lt_zero m)⟩
        · rintro ⟨h1, _⟩
          cases h1 with
          | soak hc hl => exact ⟨_, hc, hl⟩
      have bfs0 : BfsD B Pp (soakers B Pp B) ys 0 :=
        ⟨soakers_nd wf.nb, fun x hx => by
            obtain ⟨c, hc, hl⟩ := soakers_mem.mp hx
            exact List.mem_map.mpr ⟨_, hc, rfl⟩,
          fun x d hd hl => (d0 x).mpr (by rw [show d = 0 by omega] at hd; exact hd), fun p hp => by
            have hx := (d0 p.1).mp (List.mem_map.mpr ⟨p, hp, rfl⟩)
            unfold soakers at hp
            obtain ⟨q, hq, rfl⟩ := List.mem_map.mp hp
            exact ⟨0, Nat.le_refl _, rfl, hx⟩, fun x => by rw [pm.mem_iff]; exact d0 x⟩
      have lenS : ∀ {S E : Br} {E2 : List Str} {n : Nat}, BfsD B Pp S E2 n → S.length ≤ 12 := fun {S E E2 n} h => by
        have h1 := len_le_of_sub h.nd (m := nms B) (fun x hx => h.sub x hx)
        have h2 : (nms B).length = B.length := List.length_map _
        have h3 : (nms S).length = S.length := List.length_map _
        have := wf.lb
        omega
      refine ⟨fun m σ H3 => ∃ (S : Br) (E2 : List Str) (far : Nat) (e : Addr) (y5 y6 y7 : Option V), σ = [some (.ref a), some (.ref b), some (.ref D), some (.int (far : Int)), some (.ref e), y5, y6, y7] ∧ Same H H3 ∧ H3 D = some (.dK (bk S)) ∧
        H3 e = some (.lst (E2.map V.str)) ∧ BfsD B Pp S E2 far ∧ m = 2 * (12 - S.length) + (if E2 = [] then 0 else 1),
        ⟨_, soakers B Pp B, ys, 0, e0, none, none, none, rfl, sH.trans (same_new ne0), by rw [upd_ne (Ne.symm e0D)]; exact hD2, upd_same, bfs0, rfl⟩, ?_⟩
      rintro m σ H3 ⟨S, E2, far, e, y5, y6, y7, rfl, sm3, hD3, he3, bfs, rfl⟩
      have hlS : S.length ≤ 12 := lenS (E := []) bfs
      refine ⟨.ref e, rfl, !(E2.map V.str).isEmpty, .inl ⟨_, SqL.of he3, rfl⟩, ite2 (fun c => ?_) (fun c => ?_)⟩
      · have ne : E2 ≠ [] := fun z => by subst z; exact absurd c (by decide)
        refine ⟨fun σ' H' => ∃ m', m' < 2 * (12 - S.length) + (if E2 = [] then 0 else 1) ∧ ∃ (S : Br) (E2 : List Str) (far : Nat) (e : Addr) (y5 y6 y7 : Option V), σ' = [some (.ref a), some (.ref b), some (.ref D), some (.int (far : Int)), some (.ref e), y5, y6, y7] ∧ Same H H' ∧ H' D = some (.dK (bk S)) ∧
          H' e = some (.lst (E2.map V.str)) ∧ BfsD B Pp S E2 far ∧ m' = 2 * (12 - S.length) + (if E2 = [] then 0 else 1), fun σ' H' h => h, ?_⟩
        -- far += 1
        refine ⟨.int (far : Int), rfl, (far : Int), 1, rfl, rfl, ?_⟩
        -- edge = sorted({..})
        have hB3 : H3 b = some (.dT (pt Pp)) := sm3 b _ hB
        refine ⟨b, _, hB3, trivial, fun od2 => ?_⟩
        refine ⟨.ref b, rfl, b, od2, rfl, .inr ⟨_, upd_same, fun D2 nD2 => ?_⟩⟩
        have hDb : D ≠ b := fun z => by subst z; rw [hD3] at hB3; cases hB3
        have heb : e ≠ b := fun z => by subst z; rw [he3] at hB3; cases hB3
        have hD2b : D2 ≠ b := fun z => by subst z; rw [upd_same] at nD2; cases nD2
        refine Rl.gc_it (n := (pt Pp).length) (b0 := fun D => Rl.SetX P w D []) walk_keysT (fun i H4 => ∃ l : List Str, H4 D2 = some (Rl.SetX P w D2 l) ∧ l.Nodup ∧
          (∀ x, x ∈ l ↔ (∃ y w, ((x, y), w) ∈ Pp.take i ∧ y ∈ E2) ∧ x ∉ nms S) ∧ Same (upd H3 b (.frz od2 (.dT (pt Pp)))) H4) ⟨[], upd_same, List.nodup_nil, fun x => ⟨fun h => (List.not_mem_nil h).elim, fun ⟨⟨y, w, h, _⟩, _⟩ => (List.not_mem_nil h).elim⟩, same_new nD2⟩
          (fun i H4 _ ⟨_, _, _, _, h⟩ => h b _ upd_same) ?_ ?_
        · rintro i x H4 H4' hi ⟨l, hl, ndl, ml, sm4⟩ ⟨rfl, kk, v, qq, hkv, rfl, hq⟩
          obtain ⟨p, hp, rfl, rfl⟩ := pt_at hkv
          have hm : p ∈ Pp := List.mem_of_getElem? hp
          have he4 : H4' e = some (.lst (E2.map V.str)) := sm4 e _ (by rw [upd_ne heb]; exact he3)
          have hD4 : H4' D = some (.dK (bk S)) := sm4 D _ (by rw [upd_ne hDb]; exact hD3)
          have lN : l.length ≤ 12 := by
            have h1 := len_le_of_sub ndl (m := nms B) (fun z hz => by
              obtain ⟨⟨y, w, h, _⟩, _⟩ := (ml z).mp hz
              exact (wf.rp _ (List.mem_of_mem_take h)).1)
            have h2 : (nms B).length = B.length := List.length_map _
            have := wf.lb
            omega
          have tk : Pp.take (i + 1) = Pp.take i ++ [p] := by rw [List.take_add_one, hp]; rfl
          refine ⟨qq, [.str p.1.1, .str p.1.2], rfl, SqT.of hq, rfl, .str p.1.1, [.str p.1.2], rfl, .str p.1.2, [], rfl, rfl, rfl, ?_⟩
          refine ⟨.str p.1.2, rfl, .ref e, rfl, e, E2.map V.str, rfl, .inl (SqL.of he4), rfl, flat_strs _, inV (.str p.1.2) (E2.map V.str), rfl, ?_⟩
          rw [inV_strs]
          have skip : ¬ (p.1.2 ∈ E2 ∧ p.1.1 ∉ nms S) → ∀ x, x ∈ l ↔ (∃ y w, ((x, y), w) ∈ Pp.take (i + 1) ∧ y ∈ E2) ∧ x ∉ nms S := by
            intro no x
            rw [ml x, tk]
            refine ⟨fun ⟨⟨y, w, h, hy⟩, n⟩ => ⟨⟨y, w, List.mem_append_left _ h, hy⟩, n⟩, fun ⟨⟨y, w, h, hy⟩, n⟩ => ?_⟩
            rcases List.mem_append.mp h with h | h
            · exact ⟨⟨y, w, h, hy⟩, n⟩
            · have h' : ((x, y), w) = p := by simpa using h
              exact absurd (show p.1.2 ∈ E2 ∧ p.1.1 ∉ nms S by rw [← h']; exact ⟨hy, n⟩) no
          refine ite2 (fun c1 => ?_) (fun c1 => ?_)
          · have c1' := of_decide_eq_true c1
            refine ⟨.str p.1.1, rfl, .ref D, rfl, D, _, rfl, .inl ⟨_, Sum.inr p.1.1, .inl hD4, rfl, rfl⟩, _, rfl, ?_⟩
            rw [valV_bk, getB_isSome]
            refine ite2 (fun c2 => ?_) (fun c2 => ?_)
            · have c2' : p.1.1 ∉ nms S := fun z => by rw [decide_eq_true z] at c2; cases c2
              refine ⟨.str p.1.1, rfl, p.1.1, l, rfl, hl, Nat.lt_of_le_of_lt (Nat.succ_le_succ lN) (by decide), _, upd_same, ?_, fun x => ?_, ?_⟩
              · split
                · exact ndl
                · exact List.nodup_cons.mpr ⟨by assumption, ndl⟩
              · have mem : x ∈ (if p.1.1 ∈ l then l else p.1.1 :: l) ↔ x = p.1.1 ∨ x ∈ l := by
                  split
                  · rename_i h
                    exact ⟨.inr, fun z => z.elim (fun e => e ▸ h) id⟩
                  · exact List.mem_cons
                rw [mem, ml x, tk]
                constructor
                · rintro (rfl | ⟨⟨y, w, h, hy⟩, n⟩)
                  · exact ⟨⟨p.1.2, p.2, List.mem_append_right _ (List.mem_singleton.mpr rfl), c1'⟩, c2'⟩
                  · exact ⟨⟨y, w, List.mem_append_left _ h, hy⟩, n⟩
                · rintro ⟨⟨y, w, h, hy⟩, n⟩
                  rcases List.mem_append.mp h with h | h
                  · exact .inr ⟨⟨y, w, h, hy⟩, n⟩
                  · have h' : ((x, y), w) = p := by simpa using h
                    exact .inl (by rw [← h'])
              · exact fun c o ec => by
                  have nb : c ≠ D2 := ne_of_none ec nD2
                  rw [upd_ne nb]; exact sm4 c o ec
            · refine ⟨l, hl, ndl, skip fun ⟨_, z⟩ => c2 (by rw [decide_eq_false z]; rfl), sm4⟩
          · exact iteF ⟨l, hl, ndl, skip fun ⟨z, _⟩ => c1 (decide_eq_true z), sm4⟩
        · rintro H4 ⟨l, hl, ndl, ml, sm4⟩
          obtain ⟨l1, s34⟩ := same_lock hB3 sm4
          refine ⟨l1, ?_⟩
          rw [show (pt Pp).length = Pp.length from List.length_map _, List.take_length] at ml
          have hl2 : (upd H4 b (.dT (pt Pp))) D2 = some (Rl.SetX P w D2 l) := by rw [upd_ne hD2b]; exact hl
          obtain ⟨H5, hH5⟩ : ∃ H5, H5 = upd H4 b (.dT (pt Pp)) := ⟨_, rfl⟩
          rw [← hH5] at hl2 s34 ⊢
          have lN : l.length ≤ 12 := by
            have h1 := len_le_of_sub ndl (m := nms B) (fun z hz => by
              obtain ⟨⟨y, w, h, _⟩, _⟩ := (ml z).mp hz
              exact (wf.rp _ h).1)
            have h2 : (nms B).length = B.length := List.length_map _
            have := wf.lb
            omega
          refine ⟨D2, l, rfl, hl2, by omega, fun ys2 e2 pm2 _ ne2 => ?_⟩
          have ndy : ys2.Nodup := pm2.nodup_iff.mpr ndl
          have hD5 : H5 D = some (.dK (bk S)) := s34 D _ hD3
          have e2D : e2 ≠ D := Ne.symm (ne_of_none hD5 ne2)
          have nb := bfs.next wf ndy (fun x => by rw [pm2.mem_iff]; exact ml x)
          have nD3 : ∀ x ∈ ys2, x ∉ nms S := fun x hx => ((ml x).mp (pm2.mem_iff.mp hx)).2
          -- for name in edge: steps[name] = far
          refine ⟨.ref e2, rfl, e2, rfl, ⟨_, SqL.of upd_same⟩, ?_⟩
          refine for_it (walk_list (K := K) (a := e2) (xs := ys2.map V.str)) (fun i σ H6 => ∃ y5 : Option V, σ = [some (.ref a), some (.ref b), some (.ref D), some (.int ((far : Int) + 1)), some (.ref e2), y5, y6, y7] ∧ Same H H6 ∧
            H6 D = some (.dK (bk (S ++ (ys2.take i).map fun x => (x, (far : Int) + 1)))) ∧ H6 e2 = some (.lst (ys2.map V.str))) ⟨y5, rfl, sm3.trans (s34.trans (same_new ne2)), ?_, upd_same⟩ (fun i σ H6 _ ⟨_, _, _, _, h⟩ => SqL.of h) ?_ ?_
          · rw [upd_ne (Ne.symm e2D)]
            show _ = some (HO.dK (bk (S ++ [])))
            rw [List.append_nil]; exact hD5
          · rintro i x σ H6 H6' hi ⟨y5', rfl, sm6, hD6, he6⟩ ⟨rfl, hx⟩
            rw [List.getElem?_map] at hx
            cases hy : ys2[i]? with
            | none => rw [hy] at hx; cases hx
            | some z =>
              rw [hy] at hx
              have hx' : V.str z = x := Option.some.inj hx
              subst hx'
              have fr : z ∉ nms (S ++ (ys2.take i).map fun x => (x, (far : Int) + 1)) := by
                rw [nms_append]
                intro m
                rcases List.mem_append.mp m with m | m
                · exact nD3 z (List.mem_of_getElem? hy) m
                · unfold nms at m
                  rw [List.map_map] at m
                  have m' : z ∈ ys2.take i := by
                    obtain ⟨u, hu, eu⟩ := List.mem_map.mp m
                    have eu' : u = z := eu
                    rw [← eu']; exact hu
                  have h2 : (ys2.take (i + 1)).Nodup := List.Nodup.sublist (List.take_sublist _ _) ndy
                  rw [List.take_add_one, hy, List.nodup_append] at h2
                  exact h2.2.2 z m' z (List.mem_singleton.mpr rfl) rfl
              refine ⟨.int ((far : Int) + 1), rfl, .ref D, rfl, .str z, rfl, D, _, rfl, DPut.k (k := Sum.inr z) hD6 ?_, ?_⟩
              · rw [bk_len, List.length_append, List.length_map, List.length_take]
                have := pm2.length_eq
                exact small1000 (by omega)
              · refine ⟨_, rfl, fun c o ec => ?_, ?_, ?_⟩
                · have nc : c ≠ D := ne_of_none ec nDH
                  rw [upd_ne nc]; exact sm6 c o ec
                · rw [upd_same, putK_bk fr, List.take_add_one, hy, List.map_append, List.append_assoc]; rfl
                · rw [upd_ne e2D]; exact he6
          · rintro σ H6 ⟨y5', rfl, sm6, hD6, he6⟩
            rw [List.length_map, List.take_length] at hD6
            have nbS := nb
            refine ⟨_, ?_, S ++ ys2.map (fun x => (x, (far : Int) + 1)), ys2, far + 1, e2, y5', y6, y7, rfl, sm6, hD6, he6, nbS, rfl⟩
            have hl3 := lenS (E := []) nbS
            rw [List.length_append, List.length_map] at hl3 ⊢
            rw [if_neg ne]
            by_cases z : ys2 = []
            · rw [if_pos z, z]
              show 2 * (12 - (S.length + 0)) + 0 < _
              omega
            · rw [if_neg z]
              have : 0 < ys2.length := List.length_pos_iff.mpr z
              omega
      · have z : E2 = [] := by
          cases E2 with
          | nil => rfl
          | cons x r => exact absurd rfl c
        subst z
        refine ⟨.ref D, rfl, q H3 D S sm3 nDH hD3 bfs.nd (fun x => ⟨fun hx => ⟨bfs.sub x hx, by
          obtain ⟨p, hp, rfl⟩ := List.mem_map.mp hx
          obtain ⟨d, _, _, dd⟩ := bfs.val p hp
          exact opnN_opn dd.1⟩, fun ⟨_, o⟩ => bfs.done o⟩) fun p hp => by
          obtain ⟨d, _, e, dd⟩ := bfs.val p hp
          exact ⟨d, e, dd⟩⟩
end
end Nl
end
section
set_option maxHeartbeats 1000000
namespace Nl
open PySem PySem.Spec PyProof.Rows L2 Nt
/-! ### what a stand tells is the same, whatever the order of the dicts -/
theorem val0_of_mem {B : Br} (nd : (nms B).Nodup) {x : Str} {c : Int} (h : (x, c) ∈ B) : val0 B x = c := by
  unfold val0
  rw [getB_of_mem nd h]; rfl
theorem val0_perm {B B' : Br} (pm : B.Perm B') (nd : (nms B).Nodup) (x : Str) : val0 B x = val0 B' x := by
  have nd' : (nms B').Nodup := (pm.map Prod.fst).nodup_iff.mp nd
  by_cases h : x ∈ nms B
  · obtain ⟨p, hp, e⟩ := List.mem_map.mp h
    have e' : p.1 = x := e
    rw [← e', val0_of_mem nd (show (p.1, p.2) ∈ B from hp), val0_of_mem nd' (show (p.1, p.2) ∈ B' from pm.mem_iff.mp hp)]
  · have h' : x ∉ nms B' := fun m => h ((pm.map Prod.fst).mem_iff.mpr m)
    unfold val0
    rw [getB_none h, getB_none h']
theorem insOf_perm {P P' : Pi} (pm : P.Perm P') (z : Str) : (insOf P z).Perm (insOf P' z) := (pm.filter _).map _
theorem waterOf_same {B B' Qp Qp' Qc Qc' : Br} {P P' : Pi} (pB : B.Perm B') (nd : (nms B).Nodup) (pP : P.Perm P') {z : Str} (hz : z ∈ nms B) (rp : ∀ r ∈ P, r.1.1 ∈ nms B) (hp : ∀ x ∈ nms B, val0 Qp x = val0 Qp' x) (hc : ∀ x ∈ nms B, val0 Qc x = val0 Qc' x) :
    waterOf B P Qp Qc z = waterOf B' P' Qp' Qc' z := by
  unfold waterOf
  rw [hp z hz, hc z hz, val0_perm pB nd z]
  have e1 : ((insOf P z).map fun p => p.2 * val0 Qc p.1) = (insOf P z).map fun p => p.2 * val0 Qc' p.1 := List.map_congr_left fun p h => by
    rw [hc p.1 (rp _ (insOf_mem h))]
  have e2 := perm_sum ((insOf_perm pP z).map fun p => p.2 * val0 Qc' p.1)
  rw [e1, e2]
end Nl
end
section
set_option maxHeartbeats 4000000
namespace Nl
open PySem PySem.Spec PyProof.Rows L2 Nt
theorem str_extN {x y : Str} (h : x.cps.toList = y.cps.toList) : x = y := by
  cases x with
  | mk a =>
    cases y with
    | mk b =>
      have : a = b := Array.toList_inj.mp h
      rw [this]
theorem nm_in {B : Br} {Pp : Pi} (good : Good B Pp) {z : Str} (hz : z ∈ nms B) : Nm z := by
  obtain ⟨u, hu', eu⟩ := List.mem_map.mp hz
  rw [← (show u.1 = z from eu)]; exact (good.wf.rb u hu').1
/-! ### the first of the shortest ways -/
def SLt (x y : Str) : Prop := x.cps.toList < y.cps.toList
theorem SLt.irrefl (x : Str) : ¬ SLt x x := List.lt_irrefl _
theorem SLt.total {x y : Str} (h : ¬ SLt x y) (k : ¬ SLt y x) : x = y := by
  exact str_extN (List.le_antisymm (List.not_lt.mp k) (List.not_lt.mp h))
inductive Wy (B : Br) (P : Pi) : Str → List Str → Prop
  | soak {x : Str} : Dst B P x 0 → Wy B P x [x]
  | step {x y : Str} {w : Int} {d : Nat} {L : List Str} : Dst B P x (d + 1) → ((x, y), w) ∈ P → Dst B P y d → (∀ z v, ((x, z), v) ∈ P → Dst B P z d → ¬ SLt z y) → Wy B P y L → Wy B P x (x :: L)
theorem Wy.uniq {B : Br} {P : Pi} {x : Str} {L : List Str} (h : Wy B P x L) : ∀ {M : List Str}, Wy B P x M → L = M := by
  induction h with
  | soak d =>
    intro M k
    cases k with
    | soak => rfl
    | step d2 => exact absurd (d.uniq d2) (by omega)
  | step d hp dy le _ ih =>
    intro M k
    cases k with
    | soak d2 => exact absurd (d.uniq d2) (by omega)
    | step d2 hp2 dy2 le2 k2 =>
      have e := d.uniq d2
      have e' := Nat.succ.inj e
      subst e'
      have := SLt.total (le2 _ _ hp dy) (le _ _ hp2 dy2)
      subst this
      rw [ih k2]
theorem OpnN.perm {B B' : Br} {P P' : Pi} (hB : B.Perm B') (hP : P.Perm P') {x : Str} {d : Nat} (h : OpnN B P d x) : OpnN B' P' d x := by
  induction h with
  | soak h1 h2 => exact .soak (hB.mem_iff.mp h1) (by rw [← outW_perm hP]; exact h2)
  | step h1 _ ih => exact .step (hP.mem_iff.mp h1) ih
theorem Dst.perm {B B' : Br} {P P' : Pi} (hB : B.Perm B') (hP : P.Perm P') {x : Str} {d : Nat} (h : Dst B P x d) : Dst B' P' x d :=
  ⟨h.1.perm hB hP, fun m hm c => h.2 m hm (c.perm hB.symm hP.symm)⟩
theorem Wy.perm {B B' : Br} {P P' : Pi} (hB : B.Perm B') (hP : P.Perm P') {x : Str} {L : List Str} (h : Wy B P x L) : Wy B' P' x L := by
  induction h with
  | soak d => exact .soak (d.perm hB hP)
  | step d hp dy le _ ih => exact .step (d.perm hB hP) (hP.mem_iff.mp hp) (dy.perm hB hP) (fun z v hz dz => le z v (hP.mem_iff.mpr hz) (dz.perm hB.symm hP.symm)) ih
theorem Wy.head {B : Br} {P : Pi} {x : Str} {L : List Str} (h : Wy B P x L) : ∃ M, L = x :: M := by
  cases h with
  | soak => exact ⟨[], rfl⟩
  | step => exact ⟨_, rfl⟩
theorem Wy.mem {B : Br} {P : Pi} (wf : Wf Nm B P) {x : Str} {L : List Str} (h : Wy B P x L) : ∀ z ∈ L, z ∈ nms B := by
  induction h with
  | soak d => exact fun z hz => by rw [List.mem_singleton.mp hz]; exact opnN_in wf d.1
  | step d hp dy le _ ih => exact fun z hz => (List.mem_cons.mp hz).elim (fun e => by rw [e]; exact opnN_in wf d.1) (ih z)
theorem Wy.len {B : Br} {P : Pi} {x : Str} {L : List Str} (h : Wy B P x L) : ∃ d, Dst B P x d ∧ L.length = d + 1 := by
  induction h with
  | soak d => exact ⟨0, d, rfl⟩
  | step d hp dy le _ ih =>
    obtain ⟨e, h1, h2⟩ := ih
    have := dy.uniq h1
    subst this
    exact ⟨_, d, by rw [List.length_cons, h2]⟩
/-- no pond is further than there are ponds -/
theorem d12_of {B : Br} {P : Pi} (wf : Wf Nm B P) {z : Str} {d : Nat} (h : Dst B P z d) : d ≤ 12 := by
  have key : ∀ (d : Nat) (z : Str), Dst B P z d → ∃ l : List Str, l.Nodup ∧ l.length = d + 1 ∧ ∀ x ∈ l, x ∈ nms B ∧ ∃ e, e ≤ d ∧ Dst B P x e := fun d => by
    induction d with
    | zero => exact fun z hz => ⟨[z], by simp, rfl, fun x hx => by rw [List.mem_singleton.mp hx]; exact ⟨opnN_in wf hz.1, 0, Nat.le_refl _, hz⟩⟩
    | succ d ih =>
      intro z hz
      obtain ⟨y, w, hp, hy⟩ := hz.back
      obtain ⟨l, nd, ln, hl⟩ := ih y hy
      refine ⟨z :: l, List.nodup_cons.mpr ⟨fun m => ?_, nd⟩, by rw [List.length_cons, ln], fun x hx => ?_⟩
      · obtain ⟨_, e, le, de⟩ := hl z m
        have := hz.uniq de
        omega
      · rcases List.mem_cons.mp hx with e | e
        · rw [e]; exact ⟨opnN_in wf hz.1, d + 1, Nat.le_refl _, hz⟩
        · obtain ⟨m, k, lk, dk⟩ := hl x e
          exact ⟨m, k, by omega, dk⟩
  obtain ⟨l, nd, ln, hl⟩ := key d z h
  have h1 := len_le_of_sub nd (m := nms B) (fun x hx => (hl x hx).1)
  have h2 : (nms B).length = B.length := List.length_map _
  have := wf.lb
  omega
/-- pipes told in order -/
def SrtP (P : Pi) : Prop := (P.map Prod.fst).Pairwise (fun x y => Rl.ltP y x = false)
theorem outs_srt {P : Pi} (h : SrtP P) (z : Str) : ((outsOf P z).map Prod.fst).Pairwise (fun x y => ¬ SLt y x) := by
  have e : (outsOf P z).map Prod.fst = (((P.map Prod.fst).filter fun q => decide (q.1 = z)).map fun q => q.2) := by
    unfold outsOf
    rw [List.map_map, List.filter_map, List.map_map]; rfl
  rw [e]
  refine List.Pairwise.map (R := fun x y => Rl.ltP y x = false ∧ x.1 = z ∧ y.1 = z) (fun q => q.2) (fun x y ⟨h1, h2, h3⟩ c => ?_) ?_
  · have : Rl.ltP y x = true := by
      unfold Rl.ltP Rl.kx
      rw [h2, h3, lex_self (O := itemOrd), lex_cons]
      show (decide (y.2.cps.toList < x.2.cps.toList) || _) = true
      rw [decide_eq_true (show y.2.cps.toList < x.2.cps.toList from c)]; rfl
    rw [h1] at this
    cases this
  · have h1 : ((P.map Prod.fst).filter fun q => decide (q.1 = z)).Pairwise (fun x y => Rl.ltP y x = false) := h.filter _
    refine h1.imp_of_mem fun {a b} ha hb hab => ⟨hab, of_decide_eq_true (List.mem_filter.mp ha).2, of_decide_eq_true (List.mem_filter.mp hb).2⟩
theorem outs_mem {P : Pi} {z y : Str} : y ∈ (outsOf P z).map Prod.fst ↔ ∃ w, ((z, y), w) ∈ P := by
  unfold outsOf
  rw [List.map_map, List.mem_map]
  constructor
  · rintro ⟨p, hp, rfl⟩
    obtain ⟨h1, h2⟩ := List.mem_filter.mp hp
    have h2 := of_decide_eq_true h2
    exact ⟨p.2, by rw [← h2]; exact h1⟩
  · rintro ⟨w, h⟩
    exact ⟨((z, y), w), List.mem_filter.mpr ⟨h, decide_eq_true rfl⟩, rfl⟩
theorem atI_lastN {xs : List V} {v : V} : atI (xs ++ [v]) (-1) = some v := by
  have e : ixN (xs ++ [v]).length (-1) = some xs.length := by
    unfold ixN
    rw [List.length_append]
    simp
    omega
  unfold atI
  rw [e]
  simp
def spWayOut (C : Addr) : Sp := fun vs H Q _ => ∃ (n : Addr) (B : Br) (Pp : Pi) (z : Str), vs = [.ref n, .str z] ∧ NetAt C H n B Pp ∧ Good B Pp ∧ SrtP Pp ∧ z ∈ nms B ∧
  ∀ (H' : Hp) (r : Addr) (L : List Str), Same H H' → H r = none → H' r = some (.lst (L.map V.str)) → Wy B Pp z L → Q (.ref r) H'
section
variable {P : Program} {w : World} {K : PySem.W.Frag} {mg : Str → Option Value} {base : Heap}
theorem scWayOut : FnScope ["net", "name", "steps", "way", "left", "nearer", "other", "width"] ["net", "name"] (defScope s_way_out) := ⟨rfl, rfl, rfl, by decide +kernel, rfl, by decide +kernel, by decide +kernel⟩
theorem ok_wayOut {f f_chk f_brims f_pipes f_stepsD f_outs C : Addr} {fd fd_chk fd_brims fd_pipes fd_stepsD fd_outs : FuncData} (F : Fun K "way_out" "way_out" s_way_out f fd) (T : TxN K mg C)
    (m_chk : Meth K C "check_pond" f_chk) (G_chk : FnOk P w K mg base CX0 4 f_chk fd_chk ["self", "thing"] (spChk C)) (b_chk : Binds K fd_chk ["self", "thing"] [])
    (m_brims : Meth K C "brims" f_brims) (G_brims : FnOk P w K mg base CX0 1 f_brims fd_brims ["self"] (spBrims C)) (b_brims : Binds K fd_brims ["self"] [])
    (m_pipes : Meth K C "pipes" f_pipes) (G_pipes : FnOk P w K mg base CX0 1 f_pipes fd_pipes ["self"] (spPipes C)) (b_pipes : Binds K fd_pipes ["self"] [])
    (F_stepsD : Fun K "steps_out" "steps_out" sSteps f_stepsD fd_stepsD) (G_stepsD : FnOk P w K mg base CX0 2 f_stepsD fd_stepsD ["brims", "pipes"] spStepsD) (b_stepsD : Binds K fd_stepsD ["brims", "pipes"] []) (g_stepsD : mg "steps_out" = some (.ref f_stepsD))
    (m_outs : Meth K C "outs" f_outs) (G_outs : FnOk P w K mg base CX0 5 f_outs fd_outs ["self", "name"] (spOuts C)) (b_outs : Binds K fd_outs ["self", "name"] [])
    (x_range : mg "range" = none)
    (x_reversed : mg "reversed" = none) : FnOk P w K mg base CX0 6 f fd ["net", "name"] (spWayOut C) := by
  refine F.ok scWayOut (fun vs H Q E h => ?_) (fun cdv A outer s H vs Q E hr h => ?_)
  · obtain ⟨n, B, Pp, z, rfl, _⟩ := h
    rfl
  · obtain ⟨n, B, Pp, z, rfl, N, good, srt, mz, q⟩ := h
    have hu := hu_of hr
    have hr1 := hr.mono (show 1 ≤ 5 by decide)
    have hr2 := hr.mono (show 2 ≤ 5 by decide)
    have hr4 := hr.mono (show 4 ≤ 5 by decide)
    refine ⟨_, (pss_cons (ps_expr (pe_meth (pv 0) T.cl m_chk G_chk hr4 b_chk .nil pass0 (pa_cons (pv 1) pa_nil)))
      (pss_cons (ps_set (i := 2) scWayOut.nd rfl (by first | exact .inl rfl | exact .inr rfl) (pe_call G_stepsD hr2 (by rfl) g_stepsD F_stepsD.kp b_stepsD .nil pass0 (pa_cons (pe_meth0 (pv 0) T.cl m_brims G_brims hr1 b_brims .nil pass0) (pa_cons (pe_meth0 (pv 0) T.cl m_pipes G_pipes hr1 b_pipes .nil pass0) pa_nil))))
      (pss_cons (ps_set (i := 3) scWayOut.nd rfl (by first | exact .inl rfl | exact .inr rfl) (pe_lst (pa_cons (pv 1) pa_nil)))
      (pss_cons (ps_for PassesOwn.never rfl (pi_revR (by rfl) x_reversed (prg_1 (by rfl) x_range (pe_dget hu (pv 2) (pv 1) (fun _ _ => rfl)))) (pg_name (i := 4) scWayOut.nd rfl (by first | exact .inl rfl | exact .inr rfl))
        (pss_cons (ps_setLc (i := 5) (own := [("other", 6), ("width", 7)]) (g := gTup K 2 (gCons (gName 6) (gCons (gName 7) gNil))) (tt := (tTest (tOp rEq (tDGet (tVar 2) (tVar 6)) (tVar 4)))) (te := (tVar 6)) rfl scWayOut.nd rfl rfl rfl (pi_list (pe_meth (pv 0) T.cl m_outs G_outs hr b_outs .nil pass0 (pa_cons (pe_ix ix_list (pv 3) (pe_un un_neg pe_int) (fun _ _ => rfl)) pa_nil))) (blkOk_by (N := ["net", "name", "steps", "way", "left", "nearer", "other", "width"]) (sc := defScope s_way_out) (by decide +kernel)) (fun _ _ _ _ _ => (pg_tup rfl (pgs_cons (pg_name (i := 6) scWayOut.nd rfl (Or.inl rfl)) (pgs_cons (pg_name (i := 7) scWayOut.nd rfl (Or.inl rfl)) pgs_nil)))) (fun _ _ _ _ _ => pts_one (pt_cmpR op_eq (pe_dget hu (pv 2) (pv 6) (fun _ _ => rfl)) (pv 4) (nomark _))) (fun _ _ _ _ _ => (pv 6)))
        (pss_one (ps_expr (pe_bm PySem.F.plainAttrs_list PySem.F.slot_list_append PySem.F.type_list_append mt_append (pv 3) (pa_cons (pe_ix ix_list (pv 5) pe_int (fun _ _ => rfl)) pa_nil))))))
      (pss_one (ps_ret (pv 3))))))), ?_⟩
    obtain ⟨dxn, en1, en2, hn, _, _⟩ := id N.at_
    have wf := good.wf
    refine ⟨.ref n, rfl, n, dxn, _, rfl, hn, no_attr, .str z, rfl, n, B, Pp, z, rfl, N, nm_in good mz, mz, fun H1 s1 => ?_⟩
    refine ⟨.ref n, rfl, n, dxn, _, rfl, s1 n _ hn, no_attr, n, B, Pp, rfl, N.same s1, good, fun H2 a s2 na ha => ?_⟩
    have s02 := s1.trans s2
    refine ⟨.ref n, rfl, n, dxn, _, rfl, s02 n _ hn, no_attr, n, B, Pp, rfl, N.same s02, good, fun H3 b s3 nb hb => ?_⟩
    have s03 := s02.trans s3
    refine ⟨a, b, B, Pp, rfl, s3 a _ ha, hb, wf, fun H4 S0 S s4 nS hS ndS memS valS => ?_⟩
    have s04 := s03.trans s4
    have vS : ∀ x ∈ nms B, ∃ d : Nat, val0 S x = (d : Int) ∧ Dst B Pp x d := fun x hx => by
      obtain ⟨p, hp, rfl⟩ := List.mem_map.mp ((memS x).mpr ⟨hx, good.op x hx⟩)
      obtain ⟨d, e, dd⟩ := valS p hp
      exact ⟨d, by rw [val0_of_mem ndS (show (p.1, p.2) ∈ S from hp)]; exact e, dd⟩
    obtain ⟨d, ed, dz⟩ := vS z mz
    refine ⟨.str z, rfl, line1000 (by show 1 ≤ 1000; decide), fun w nw => ?_⟩
    have s5 := same_new (o := .lst [.str z]) nw
    have hw : (upd H4 w (.lst [.str z])) w = some (.lst (([z] : List Str).map V.str)) := upd_same
    obtain ⟨H5, eH5⟩ : ∃ X, X = upd H4 w (.lst [.str z]) := ⟨_, rfl⟩
    rw [← eH5] at s5 hw ⊢
    clear eH5
    have s05 := s04.trans s5
    have nwH : H w = none := s04.free nw
    have hS5 := s5 S0 _ hS
    have gS : ∀ x ∈ nms B, ∃ e : Nat, getB S x = some (e : Int) ∧ Dst B Pp x e := fun x hx => by
      obtain ⟨e, h1, h2⟩ := vS x hx
      obtain ⟨v, hv⟩ := getB_some ((memS x).mpr ⟨hx, good.op x hx⟩)
      refine ⟨e, ?_, h2⟩
      rw [← h1]
      unfold val0
      rw [hv]; rfl
    obtain ⟨d', gz, dz'⟩ := gS z mz
    have := dz.uniq dz'
    subst this
    have d12 : d ≤ 12 := d12_of wf dz
    refine ⟨.ref S0, rfl, .str z, rfl, S0, .int (d : Int), rfl, .inl ⟨_, Sum.inr z, .inl hS5, rfl, by rw [valV_bk, gz]; rfl⟩, ?_⟩
    refine ⟨_, rfl, by decide, by decide, by omega, by omega, ?_⟩
    refine for_it walk_rangeC (fun i σ H6 => ∃ (W : List Str) (y : Str) (x4 x5 x6 x7 : Option V), σ = [some (.ref n), some (.str z), some (.ref S0), some (.ref w), x4, x5, x6, x7] ∧ Same H H6 ∧ H6 S0 = some (.dK (bk S)) ∧ H6 w = some (.lst ((W ++ [y]).map V.str)) ∧ W.length = i ∧ y ∈ nms B ∧ i ≤ d ∧ Dst B Pp y (d - i) ∧ ∀ L, Wy B Pp y L → Wy B Pp z (W ++ L))
      ⟨[], z, none, none, none, none, rfl, s05, hS5, hw, rfl, mz, Nat.zero_le _, dz, fun L h => h⟩ (fun _ _ _ _ _ => trivial) ?_ ?_
    · clear s05 hS5 hw s5
      rintro i x σ H6 H6' hi ⟨W, y, x4, x5, x6, x7, rfl, s6, hS6, hw6, lW, my, id, dy, ext⟩ ⟨rfl, ex⟩
      have hi' : i < d := by omega
      have eL : (0 : Int) + ((((d : Int) - 0).toNat : Nat) : Int) - 1 + (i : Int) * -1 = ((d - i - 1 : Nat) : Int) := by omega
      have ex : x = .int ((d - i - 1 : Nat) : Int) := by
        rw [ex]
        show V.int (0 + ((((d : Int) - 0).toNat : Nat) : Int) - 1 + (i : Int) * -1) = _
        rw [eL]
      subst ex
      have dy' : Dst B Pp y ((d - i - 1) + 1) := by rw [show d - i - 1 + 1 = d - i by omega]; exact dy
      refine ⟨.ref n, rfl, n, dxn, _, rfl, s6 n _ hn, no_attr, .ref w, rfl, 1, rfl, w, _, -1, .str y, rfl, rfl, SqL.of hw6, by rw [List.map_append]; exact atI_lastN, n, B, Pp, y, rfl, N.same s6, good, nm_in good my, my, fun H7 p as s7 np hp pa => ?_⟩
      have s07 := s6.trans s7
      have hS7 := s7 S0 _ hS6
      have hw7 := s7 w _ hw6
      refine ⟨p, rfl, ⟨_, SqL.of hp⟩, fun D nD => ?_⟩
      have ol : (outsOf Pp y).length ≤ 200 := by
        unfold outsOf
        rw [List.length_map]
        have := List.length_filter_le (fun p : (Str × Str) × Int => decide (p.1.1 = y)) Pp
        have := wf.lp
        omega
      refine lc_it (n := (as.map V.ref).length) (walk_list (K := K) (a := p) (xs := as.map V.ref)) (fun k H8 => H8 D = some (.lst (((((outsOf Pp y).map Prod.fst).take k).filter fun o => decide (V.int (val0 S o) = V.int ((d - i - 1 : Nat) : Int))).map V.str)) ∧ Same H7 H8) ⟨upd_same, same_new nD⟩ (fun k H8 _ h => SqL.of (h.2 p _ hp)) ?_ ?_
      · rintro k v H8 H8' hk ⟨hD8, s8⟩ ⟨rfl, hv⟩
        rw [List.length_map] at hk
        rw [List.getElem?_map] at hv
        cases hq : as[k]? with
        | none => rw [hq] at hv; cases hv
        | some t =>
        rw [hq] at hv
        have hv' : V.ref t = v := Option.some.inj hv
        subst hv'
        obtain ⟨u, hu'⟩ : ∃ u, (outsOf Pp y)[k]? = some u := ⟨_, List.getElem?_eq_getElem (by rw [← pa.1]; exact hk)⟩
        obtain ⟨t', e1, e2⟩ := pa.2 k u hu'
        rw [hq] at e1
        cases e1
        have s78 := s8
        have ht8 := s8 t _ e2
        have mu : ∃ w', ((y, u.1), w') ∈ Pp := outs_mem.mp (List.mem_map.mpr ⟨u, List.mem_of_getElem? hu', rfl⟩)
        obtain ⟨w', hw'⟩ := mu
        have mu' : u.1 ∈ nms B := (wf.rp _ hw').2.1
        obtain ⟨e, ge, de⟩ := gS u.1 mu'
        have tk : ((outsOf Pp y).map Prod.fst).take (k + 1) = ((outsOf Pp y).map Prod.fst).take k ++ [u.1] := by
          rw [List.take_add_one, List.getElem?_map, hu']; rfl
        have vu : val0 S u.1 = (e : Int) := by unfold val0; rw [ge]; rfl
        refine ⟨t, [.str u.1, .int u.2], rfl, SqT.of ht8, rfl, .str u.1, [.int u.2], rfl, .int u.2, [], rfl, rfl, rfl, ?_⟩
        refine ⟨.ref S0, rfl, .str u.1, rfl, S0, .int (e : Int), rfl, .inl ⟨_, Sum.inr u.1, .inl (s8 S0 _ hS7), rfl, by rw [valV_bk, ge]; rfl⟩, .int ((d - i - 1 : Nat) : Int), rfl, rfl, _, rfl, ite2 (fun c => ?_) (fun c => ?_)⟩
        · refine ⟨.str u.1, rfl, _, hD8, ?_, ?_, fun c' o' ec => ?_⟩
          · rw [List.length_map]
            refine small1000 (Nat.le_trans (List.length_filter_le _ _) ?_)
            rw [List.length_take, List.length_map]
            omega
          · rw [upd_same, tk, List.filter_append, List.map_append]
            show _ = some (HO.lst (_ ++ List.map V.str (List.filter _ [u.1])))
            rw [List.filter_cons, if_pos (by rw [vu]; exact c)]; rfl
          · rw [upd_ne (ne_of_none ec nD)]; exact s8 c' o' ec
        · refine ⟨?_, s8⟩
          rw [hD8, tk, List.filter_append]
          rw [show List.filter (fun o => decide (V.int (val0 S o) = V.int ((d - i - 1 : Nat) : Int))) [u.1] = [] by rw [List.filter_cons, if_neg (by rw [vu]; exact c)]; rfl, List.append_nil]
      rintro H8 ⟨hD8, s8⟩
      rw [show ((outsOf Pp y).map Prod.fst).take (as.map V.ref).length = (outsOf Pp y).map Prod.fst from List.take_of_length_le (by rw [List.length_map, List.length_map, pa.1]; exact Nat.le_refl _)] at hD8
      obtain ⟨NL', eN⟩ : ∃ M, M = ((outsOf Pp y).map Prod.fst).filter fun o => decide (V.int (val0 S o) = V.int ((d - i - 1 : Nat) : Int)) := ⟨_, rfl⟩
      rw [← eN] at hD8
      have isN : ∀ o, o ∈ NL' ↔ (∃ w', ((y, o), w') ∈ Pp) ∧ Dst B Pp o (d - i - 1) := fun o => by
        rw [eN, List.mem_filter, outs_mem]
        constructor
        · rintro ⟨⟨w', hw'⟩, c⟩
          obtain ⟨e, ge, de⟩ := gS o (wf.rp _ hw').2.1
          have vu : val0 S o = (e : Int) := by unfold val0; rw [ge]; rfl
          have c' := of_decide_eq_true c
          rw [vu] at c'
          injection c' with c'
          have : e = d - i - 1 := by omega
          exact ⟨⟨w', hw'⟩, by rw [← this]; exact de⟩
        · rintro ⟨⟨w', hw'⟩, dd⟩
          obtain ⟨e, ge, de⟩ := gS o (wf.rp _ hw').2.1
          have vu : val0 S o = (e : Int) := by unfold val0; rw [ge]; rfl
          have := de.uniq dd
          exact ⟨⟨w', hw'⟩, decide_eq_true (by rw [vu, this])⟩
      have srtN : NL'.Pairwise (fun x y => ¬ SLt y x) := by
        rw [eN]
        exact (outs_srt srt y).filter _
      obtain ⟨u, w', hu', du⟩ := dy'.back
      have mu := (isN u).mpr ⟨⟨w', hu'⟩, du⟩
      obtain ⟨y', R, eR⟩ : ∃ y' R, NL' = y' :: R := by
        cases hN : NL' with
        | nil => rw [hN] at mu; cases mu
        | cons a r => exact ⟨a, r, rfl⟩
      obtain ⟨⟨w2, hy2⟩, dy2⟩ := (isN y').mp (by rw [eR]; exact List.mem_cons_self)
      have least : ∀ z v, ((y, z), v) ∈ Pp → Dst B Pp z (d - i - 1) → ¬ SLt z y' := fun z v hz dz => by
        have hz' := (isN z).mpr ⟨⟨v, hz⟩, dz⟩
        rw [eR] at hz' srtN
        rcases List.mem_cons.mp hz' with e | e
        · rw [e]; exact SLt.irrefl _
        · exact (List.pairwise_cons.mp srtN).1 z e
      have hw8 := s8 w _ hw7
      have nDw : D ≠ w := fun e => by rw [e, hw7] at nD; cases nD
      refine ⟨.ref w, rfl, .inl ⟨rfl, _, SqL.of hw8⟩, .ref D, rfl, D, _, 0, .str y', rfl, rfl, SqL.of hD8, atI_nat (j := 0) (by rw [eR]; rfl), w, _, _, rfl, rfl, hw8, ?_, ?_⟩
      · rw [List.length_map, List.length_append]
        exact small1000 (by have : [y].length = 1 := rfl; omega)
      · refine ⟨W ++ [y], y', _, _, _, _, rfl, fun c o ec => ?_, ?_, ?_, ?_, (wf.rp _ hy2).2.1, by omega, ?_, fun L hL => ?_⟩
        · rw [upd_ne (ne_of_none ec nwH)]
          exact s8 c o (s07 c o ec)
        · rw [upd_ne (fun e => by rw [e, hw6] at hS6; cases hS6)]
          exact s8 S0 _ hS7
        · rw [upd_same, List.map_append, List.map_append, List.map_append]; rfl
        · rw [List.length_append, lW]; rfl
        · have : d - (i + 1) = d - i - 1 := by omega
          rw [this]; exact dy2
        · rw [List.append_assoc]
          exact ext _ (.step dy' hy2 dy2 least hL)
    · rintro σ H6 ⟨W, y, x4, x5, x6, x7, rfl, s6, hS6, hw6, lW, my, id, dy, ext⟩
      have e0 : ((d : Int) - 0).toNat = d := by omega
      rw [e0] at lW id dy
      rw [Nat.sub_self] at dy
      exact ⟨.ref w, rfl, q H6 w (W ++ [y]) s6 nwH hw6 (ext _ (.soak dy))⟩
end
end Nl
end
section
set_option maxHeartbeats 2000000
/-! d.update(d2); min(xs) of alike data -/
namespace Rl
open PySem PySem.Spec PyProof.Rows L2
def rUpdate : V → List V → Hp → VK → Prop := fun x vs H Q => ∃ (a b : Addr) (kvs more : List (Key × V)), x = .ref a ∧ vs = [.ref b] ∧ a ≠ b ∧ H a = some (.dK kvs) ∧ H b = some (.dK more) ∧ kvs.length + more.length ≤ 1000 ∧ Q .non (upd H a (.dK (mergeK kvs more)))
theorem mt_update {X : Cx} : MtR X "dict.update" rUpdate := by
  intro pins s σ H x vs v us Q I rx rv h
  obtain ⟨a, b, kvs, more, rfl, rfl, ne, ha, hb, hz, q⟩ := h
  obtain rfl : v = Value.ref a := rx
  rw [Vals.ref1 rv]
  obtain ⟨z1, sd1, vs1, r1, d1⟩ := dk_of I.hok ha
  obtain ⟨z2, sd2, vs2, r2, d2⟩ := dk_of I.hok hb
  have lm : (mergeK kvs more).length ≤ sizeLine := by
    have := length_mergeK more kvs
    rw [sizeLine_eq]
    omega
  refine call_meetsIn PySem.F.slot_dict_update d1.typeIs PySem.F.entry_dict_update (PySem.F.args_dict_update_2 _ _) (meets_dict_update (mixKind X.prog X.w) a b ne sd2)
    ⟨vs1, vs2, d1, d2, by rw [← r1.length, ← r2.length, sizeLine_eq]; omega, fun h' dd' _ hs => ?_⟩
  have he : ∃ q, h'.get? a = some q := let ⟨q, _, _, hq, _⟩ := dd'; ⟨q, hq⟩
  exact ⟨.non, _, d_write (t' := s.toks) I (by rw [ha]; exact True.intro) hs he (dk_new lm sd1 (r2.merge r1) dd'), rfl, q⟩
/-- the first of the least of these data, as it stands in the list -/
def rMinD (K : PySem.W.Frag) : List V → Hp → VK → Prop := fun vs H Q => ∃ (a : Addr) (xs : List V) (d : PyData) (ds : List PyData), vs = [.ref a] ∧ SqL K H a xs ∧ DpAll K H xs (d :: ds) ∧ PySem.W.AlikeAll (d :: ds) ∧ PyData.depthAll (d :: ds) ≤ 8 ∧
  ∀ (i : Nat) (v : V), xs[i]? = some v → (d :: ds)[i]? = some (PySem.W.minD d ds) → Q v H
theorem dpAll_reads {X : Cx} {pins : List (Addr × Obj)} {σ : L2.St} {H : Hp} {s : Shared} (I : L2.Inv X pins σ H s) : ∀ {xs : List V} {ds : List PyData} {us : List Value}, DpAll X.K H xs ds → Vals xs us → ∀ (i : Nat) (u : Value), us[i]? = some u → ∃ v d as, xs[i]? = some v ∧ ds[i]? = some d ∧ RelV v u ∧ Reads s.heap u d as
  | _, _, _, .nil, .nil, i, u, h => by simp at h
  | _, _, _, .cons hd _, .cons hv _, 0, u, h => by
    have e := Option.some.inj (show some _ = some u from h)
    subst e
    obtain ⟨as, r⟩ := Dp.reads I _ _ _ hd hv
    exact ⟨_, _, as, rfl, rfl, hv, r⟩
  | _, _, _, .cons _ ht, .cons _ hr, i + 1, u, h => by
    obtain ⟨v, d, as, h1, h2, h3, h4⟩ := dpAll_reads I ht hr i u (by simpa using h)
    exact ⟨v, d, as, by simpa using h1, by simpa using h2, h3, h4⟩
theorem minD_mem (x : PyData) : ∀ (xs : List PyData) , PySem.W.minD x xs ∈ x :: xs := fun xs => by
  unfold PySem.W.minD
  induction xs generalizing x with
  | nil => exact List.mem_cons_self
  | cons y r ih =>
    rw [List.foldl_cons]
    rcases List.mem_cons.mp (ih (if PySem.W.dataLt y x = true then y else x)) with h | h
    · rw [h]
      split
      · exact List.mem_cons_of_mem _ List.mem_cons_self
      · exact List.mem_cons_self
    · exact List.mem_cons_of_mem _ (List.mem_cons_of_mem _ h)
theorem cr_minD {X : Cx} (hc : X.calm = true) (hu : X.A.units + 64 < cLine) : CallR X (.builtin "min") (rMinD X.K) := by
  intro pins s σ H vs us Q I r h
  obtain ⟨a, xs, d, ds, rfl, hs, hd, al, dp, q⟩ := h
  obtain ⟨its, rv, hl, _⟩ := I.list hs
  rw [Vals.ref1 r]
  obtain ⟨as, hr⟩ := Dp.readsAll I _ _ _ hd rv
  refine PySem.W.min_list_data (I.ok.hd hc) hl.isList (by simpa using hr) al (by omega) fun i v h' tk bs hv hm hk => ?_
  obtain ⟨y, e, cs, h1, h2, h3, h4⟩ := dpAll_reads I hd rv i v (by simpa using hv)
  have me : e ∈ d :: ds := List.mem_of_getElem? h2
  have mm := minD_mem d ds
  have : e = PySem.W.minD d ds := PySem.W.alike_unique _ _ _ _ _ (al.1 _ me _ mm) (Reads.keeps hk h4) hm
  exact ⟨y, H, I.kept hk, h3, q i y h1 (by rw [h2, this])⟩
end Rl
end
section
set_option maxHeartbeats 4000000
namespace Nl
open PySem PySem.Spec PyProof.Rows L2 Nt
/-- a table of ways -/
def wk (W : List (Str × Addr)) : List (Key × V) := W.map fun p => ((Sum.inr p.1 : Key), V.ref p.2)
theorem wk_len (W : List (Str × Addr)) : (wk W).length = W.length := List.length_map _
theorem valV_wk : ∀ {W : List (Str × Addr)} {p : Str × Addr}, (W.map Prod.fst).Nodup → p ∈ W → valV (wk W) (Sum.inr p.1 : Key) = some (.ref p.2) := by
  intro W p nd hp
  induction W with
  | nil => cases hp
  | cons x r ih =>
    rw [List.map_cons, List.nodup_cons] at nd
    unfold wk
    rw [List.map_cons]
    unfold valV
    rw [List.find?_cons]
    by_cases c : x.1 = p.1
    · have : x = p := by
        rcases List.mem_cons.mp hp with h | h
        · exact h.symm
        · exact absurd (List.mem_map.mpr ⟨p, h, c.symm⟩) nd.1
      subst this
      simp
    · rw [decide_eq_false (show ¬ (Sum.inr x.1 : Key) = Sum.inr p.1 from fun e => c (Sum.inr.inj e))]
      rcases List.mem_cons.mp hp with h | h
      · exact absurd (by rw [h]) c
      · exact ih nd.2 h
theorem valV_wk_none {W : List (Str × Addr)} {z : Str} (h : z ∉ W.map Prod.fst) : valV (wk W) (Sum.inr z : Key) = none := by
  unfold valV
  rw [List.find?_eq_none.mpr]
  · rfl
  · intro q hq
    obtain ⟨p, hp, rfl⟩ := List.mem_map.mp hq
    exact fun e => h (List.mem_map.mpr ⟨p, hp, Sum.inr.inj (of_decide_eq_true e)⟩)
theorem valV_wk_isSome (W : List (Str × Addr)) (nd : (W.map Prod.fst).Nodup) (z : Str) : (valV (wk W) (Sum.inr z : Key)).isSome = decide (z ∈ W.map Prod.fst) := by
  by_cases h : z ∈ W.map Prod.fst
  · obtain ⟨p, hp, rfl⟩ := List.mem_map.mp h
    rw [valV_wk nd hp, decide_eq_true h]; rfl
  · rw [valV_wk_none h, decide_eq_false h]; rfl
theorem wk_app (W M : List (Str × Addr)) : wk (W ++ M) = wk W ++ wk M := List.map_append
theorem merge_wk : ∀ (M W : List (Str × Addr)), ((W ++ M).map Prod.fst).Nodup → mergeK (wk W) (wk M) = wk (W ++ M)
  | [], W, _ => by rw [List.append_nil]; rfl
  | p :: M, W, nd => by
    have h1 : p.1 ∉ W.map Prod.fst := fun m => by
      rw [List.map_append, List.nodup_append] at nd
      exact nd.2.2 p.1 m p.1 (by rw [List.map_cons]; exact List.mem_cons_self) rfl
    have h2 : mergeK (wk W) (wk (p :: M)) = mergeK (wk (W ++ [p])) (wk M) := by
      show mergeK (putK (wk W) (Sum.inr p.1) (.ref p.2)) (wk M) = _
      rw [putK_new _ (valV_wk_none h1), wk_app]; rfl
    have e : (W ++ [p]) ++ M = W ++ (p :: M) := by rw [List.append_assoc]; rfl
    rw [h2, merge_wk M (W ++ [p]) (by rw [e]; exact nd), e]
def WysAt (B : Br) (Pp : Pi) (H : Hp) (W : List (Str × Addr)) : Prop := ∀ p ∈ W, ∃ L : List Str, H p.2 = some (.lst (L.map V.str)) ∧ Wy B Pp p.1 L
theorem dlt_of {B : Br} {P : Pi} (wf : Wf Nm B P) {z : Str} {d : Nat} (h : Dst B P z d) : d + 1 ≤ B.length := by
  have key : ∀ (d : Nat) (z : Str), Dst B P z d → ∃ l : List Str, l.Nodup ∧ l.length = d + 1 ∧ ∀ x ∈ l, x ∈ nms B ∧ ∃ e, e ≤ d ∧ Dst B P x e := fun d => by
    induction d with
    | zero => exact fun z hz => ⟨[z], by simp, rfl, fun x hx => by rw [List.mem_singleton.mp hx]; exact ⟨opnN_in wf hz.1, 0, Nat.le_refl _, hz⟩⟩
    | succ d ih =>
      intro z hz
      obtain ⟨y, w, hp, hy⟩ := hz.back
      obtain ⟨l, nd, ln, hl⟩ := ih y hy
      refine ⟨z :: l, List.nodup_cons.mpr ⟨fun m => ?_, nd⟩, by rw [List.length_cons, ln], fun x hx => ?_⟩
      · obtain ⟨_, e, le, de⟩ := hl z m
        have := hz.uniq de
        omega
      · rcases List.mem_cons.mp hx with e | e
        · rw [e]; exact ⟨opnN_in wf hz.1, d + 1, Nat.le_refl _, hz⟩
        · obtain ⟨m, k, lk, dk⟩ := hl x e
          exact ⟨m, k, by omega, dk⟩
  obtain ⟨l, nd, ln, hl⟩ := key d z h
  have h1 := len_le_of_sub nd (m := nms B) (fun x hx => (hl x hx).1)
  have h2 : (nms B).length = B.length := List.length_map _
  omega
/-! ### lists of texts as data -/
def sD (L : List Str) : PyData := .list (L.map PyData.str)
theorem sD_all {K : PySem.W.Frag} {H : Hp} : ∀ L : List Str, DpAll K H (L.map V.str) (L.map PyData.str)
  | [] => .nil
  | x :: r => .cons (.str x) (sD_all r)
theorem sD_dp {K : PySem.W.Frag} {H : Hp} {a : Addr} {L : List Str} (h : H a = some (.lst (L.map V.str))) : Dp K H (.ref a) (sD L) := .lst (SqL.of h) (sD_all L)
theorem sD_lay : ∀ {L : List Str}, (∀ z ∈ L, PyData.strOk z = true) → PyData.canLayAll0 (L.map PyData.str) = true ∧ PyData.depthAll (L.map PyData.str) = 0
  | [], _ => by simp [PyData.canLayAll0, PyData.depthAll]
  | x :: r, h => by
    obtain ⟨h1, h2⟩ := sD_lay fun z hz => h z (List.mem_cons_of_mem _ hz)
    constructor
    · show (PyData.canLay0 (.str x) && PyData.canLayAll0 (r.map PyData.str)) = true
      rw [h1]
      simp [PyData.canLay0, h x List.mem_cons_self]
    · show max (PyData.depth (.str x)) (PyData.depthAll (r.map PyData.str)) = 0
      rw [h2]
      simp [PyData.depth]
theorem sDs_lay : ∀ {Ls : List (List Str)}, (∀ L ∈ Ls, ∀ z ∈ L, PyData.strOk z = true) → PyData.canLayAll0 (Ls.map sD) = true ∧ PyData.depthAll (Ls.map sD) ≤ 1
  | [], _ => by simp [PyData.canLayAll0, PyData.depthAll]
  | L :: r, h => by
    obtain ⟨h1, h2⟩ := sDs_lay fun M hM => h M (List.mem_cons_of_mem _ hM)
    obtain ⟨l1, l2⟩ := sD_lay (h L List.mem_cons_self)
    have e1 : PyData.canLay0 (sD L) = true := by unfold sD; simp [PyData.canLay0, l1]
    have e2 : PyData.depth (sD L) = 1 := by unfold sD; simp [PyData.depth, l2]
    constructor
    · show (PyData.canLay0 (sD L) && PyData.canLayAll0 (r.map sD)) = true
      rw [h1, e1]; rfl
    · show max (PyData.depth (sD L)) (PyData.depthAll (r.map sD)) ≤ 1
      rw [e2]
      omega
theorem sDs_shaped {Ls : List (List Str)} (h : ∀ L ∈ Ls, ∀ z ∈ L, PyData.strOk z = true) : SeqAt.shaped (.list (Ls.map sD)) = true := by
  obtain ⟨h1, h2⟩ := sDs_lay h
  unfold SeqAt.shaped
  rw [show PyData.canLay0 (.list (Ls.map sD)) = PyData.canLayAll0 (Ls.map sD) by simp [PyData.canLay0], h1, show PyData.depth (.list (Ls.map sD)) = PyData.depthAll (Ls.map sD) + 1 by simp [PyData.depth]]
  rw [decide_eq_true (show PyData.depthAll (Ls.map sD) + 1 ≤ 64 by omega)]; rfl
theorem sD_shaped {L : List Str} (h : ∀ z ∈ L, PyData.strOk z = true) : SeqAt.shaped (sD L) = true := by
  obtain ⟨h1, h2⟩ := sD_lay h
  unfold SeqAt.shaped sD
  rw [show PyData.canLay0 (.list (L.map PyData.str)) = PyData.canLayAll0 (L.map PyData.str) by simp [PyData.canLay0], h1, show PyData.depth (.list (L.map PyData.str)) = PyData.depthAll (L.map PyData.str) + 1 by simp [PyData.depth], h2]
  rfl
theorem sD_alikeAll : ∀ L M : List Str, PySem.W.alikeAll (L.map PyData.str) (M.map PyData.str) = true
  | [], _ => by simp [PySem.W.alikeAll]
  | _ :: _, [] => by simp [PySem.W.alikeAll]
  | x :: r, y :: t => by
    show PySem.W.alikeAll (.str x :: r.map PyData.str) (.str y :: t.map PyData.str) = true
    rw [PySem.W.alikeAll]
    rw [sD_alikeAll r t]
    simp [PySem.W.alike]
theorem sD_alike (L M : List Str) : PySem.W.alike (sD L) (sD M) = true := by
  unfold sD
  rw [PySem.W.alike]
  exact sD_alikeAll L M
theorem dataLt_irrefl (x : PyData) : PySem.W.dataLt x x = false := PyProof.Rows.lex_irrefl _
/-- the least is below all -/
theorem minD_least (x : PyData) : ∀ (xs : List PyData), ∀ y ∈ x :: xs, PySem.W.dataLt y (PySem.W.minD x xs) = false := fun xs => by
  unfold PySem.W.minD
  induction xs generalizing x with
  | nil => exact fun y hy => by rw [List.mem_singleton.mp hy]; exact dataLt_irrefl x
  | cons z r ih =>
    intro y hy
    rw [List.foldl_cons]
    have hm := ih (if PySem.W.dataLt z x = true then z else x)
    have h0 := hm _ List.mem_cons_self
    have tr : ∀ a b c : PyData, PySem.W.dataLt a c = true → PySem.W.dataLt a b = true ∨ PySem.W.dataLt b c = true := fun a b c h => PyProof.Rows.lex_negTrans _ _ _ h
    have ts : ∀ a b c : PyData, PySem.W.dataLt a b = true → PySem.W.dataLt b c = true → PySem.W.dataLt a c = true := fun a b c h k => PyProof.Rows.lex_trans _ _ _ h k
    rcases List.mem_cons.mp hy with e | hy
    · subst e
      by_cases c : PySem.W.dataLt z y = true
      · rw [if_pos c] at h0 ⊢
        cases h : PySem.W.dataLt y (r.foldl (fun a y => if PySem.W.dataLt y a = true then y else a) z) with
        | false => rfl
        | true =>
          have := ts _ _ _ c h
          rw [h0] at this; cases this
      · rw [if_neg c] at h0 ⊢
        exact h0
    · rcases List.mem_cons.mp hy with e | hy
      · subst e
        by_cases c : PySem.W.dataLt y x = true
        · rw [if_pos c] at h0 ⊢
          exact h0
        · rw [if_neg c] at h0 ⊢
          cases h : PySem.W.dataLt y (r.foldl (fun a y => if PySem.W.dataLt y a = true then y else a) x) with
          | false => rfl
          | true =>
            rcases tr y x _ h with k | k
            · exact absurd k c
            · rw [h0] at k; cases k
      · exact hm y (List.mem_cons_of_mem _ hy)
/-- of two ways from one pond the one whose second pond is less -/
theorem sD_lt {z y y' : Str} {L M : List Str} (h : SLt y' y) : PySem.W.dataLt (sD (z :: y' :: M)) (sD (z :: y :: L)) = true := by
  unfold sD
  rw [PySem.W.dataLt_list, List.map_cons, List.map_cons, List.map_cons, List.map_cons]
  rw [PySem.W.dataLt_all_yes (by simp [PySem.W.alike]) (by simp [PyData.eqv])]
  rw [PySem.W.dataLt_all_no (by simp [PySem.W.alike]) (by
    have : y' ≠ y := fun e => SLt.irrefl y (by rw [e] at h; exact h)
    simp [PyData.eqv, this]), PySem.W.dataLt_str]
  exact decide_eq_true h
def spLWays : Sp := fun vs H Q _ => ∃ (a b : Addr) (B : Br) (Pp : Pi), vs = [.ref a, .ref b] ∧ H a = some (.dK (bk B)) ∧ H b = some (.dT (pt Pp)) ∧ Good B Pp ∧
  ∀ (H' : Hp) (r : Addr) (W : List (Str × Addr)), Same H H' → H r = none → H' r = some (.dK (wk W)) → (W.map Prod.fst).Nodup → (∀ x, x ∈ W.map Prod.fst ↔ x ∈ nms B) → WysAt B Pp H' W → (∀ p ∈ W, H p.2 = none) → Q (.ref r) H'
section
variable {P : Program} {w : World} {K : PySem.W.Frag} {mg : Str → Option Value} {base : Heap}
theorem scLWays : FnScope ["_law_brims", "_law_pipes", "_law_found", "_law_name_here", "_law_turn", "_law_more", "_law_ways_here", "_law_pair"] ["_law_brims", "_law_pipes"] (defScope s_law_ways) := ⟨rfl, rfl, rfl, by decide +kernel, rfl, by decide +kernel, by decide +kernel⟩
theorem ok_lways {f  C : Addr} {fd  : FuncData} (F : Fun K "_law_ways" "_law_ways" s_law_ways f fd) (T : TxN K mg C)
    (x_len : mg "len" = none)
    (x_min : mg "min" = none)
    (x_range : mg "range" = none)
    (x_sum : mg "sum" = none) : FnOk P w K mg base CX0 2 f fd ["_law_brims", "_law_pipes"] spLWays := by
  refine F.ok scLWays (fun vs H Q E h => ?_) (fun cdv A outer s H vs Q E hr h => ?_)
  · obtain ⟨a, b, B, Pp, rfl, _⟩ := h
    rfl
  · obtain ⟨a, b, B, Pp, rfl, hA, hB, good, q⟩ := h
    have hu := hu_of hr
    refine ⟨_, (pss_cons (ps_set (i := 2) scLWays.nd rfl (by first | exact .inl rfl | exact .inr rfl) pe_dnewK)
      (pss_cons (ps_lock (ps_for PassesOwn.never rfl (pi_keys (pv 0)) (pg_name (i := 3) scLWays.nd rfl (by first | exact .inl rfl | exact .inr rfl))
        (pss_one (ps_if (pt_cmpR op_lt (pe_callB (cr_sum rfl) (by rfl) x_sum (by decide +kernel) (pa_cons (pe_lock (pe_lc (own := [("_law_pair", 7)]) (g := gName 7) (tt := (tTest (tOp rEq (tOp (rIxT K) (tVar 7) (tC (.int 0))) (tVar 3)))) (te := (tDGet (tVar 1) (tVar 7))) rfl scLWays.nd (pi_keys (pv 1)) (blkOk_by (N := ["_law_brims", "_law_pipes", "_law_found", "_law_name_here", "_law_turn", "_law_more", "_law_ways_here", "_law_pair"]) (sc := defScope s_law_ways) (by decide +kernel)) (fun _ _ _ _ _ => (pg_name (i := 7) scLWays.nd rfl (Or.inl rfl))) (fun _ _ _ _ _ => pts_one (pt_cmpR op_eq (pe_ix ix_tup (pv 7) pe_int (fun _ _ => rfl)) (pv 3) (nomark _))) (fun _ _ _ _ _ => (pe_dget hu (pv 1) (pv 7) (fun _ _ => rfl))))) pa_nil)) (pe_dget hu (pv 0) (pv 3) (fun _ _ => rfl)) (nomark _)) (pss_one (ps_dput hu (pv 2) (pv 3) (pe_lst (pa_cons (pv 3) pa_nil)) rfl)) pss_nil))))
      (pss_cons (ps_for PassesOwn.never rfl (pi_range1 (by rfl) x_range (pa_cons (pe_callB call_lenD (by rfl) x_len PySem.boot_len (pa_cons (pv 0) pa_nil)) pa_nil)) (pg_name (i := 4) scLWays.nd rfl (by first | exact .inl rfl | exact .inr rfl))
        (pss_cons (ps_set (i := 5) scLWays.nd rfl (by first | exact .inl rfl | exact .inr rfl) pe_dnewK)
        (pss_cons (ps_lock (ps_for PassesOwn.never rfl (pi_keys (pv 0)) (pg_name (i := 3) scLWays.nd rfl (by first | exact .inl rfl | exact .inr rfl))
          (pss_cons (ps_lock (ps_setLc (i := 6) (own := [("_law_pair", 7)]) (g := gName 7) (tt := tAnd (tTest (tOp rEq (tOp (rIxT K) (tVar 7) (tC (.int 0))) (tVar 3))) (tB (tDIn (tOp (rIxT K) (tVar 7) (tC (.int 1))) (tVar 2)))) (te := (tOp rCat (tLst (tCons (tVar 3) tNil)) (tDGet (tVar 2) (tOp (rIxT K) (tVar 7) (tC (.int 1)))))) rfl scLWays.nd rfl rfl rfl (pi_keys (pv 1)) (blkOk_by (N := ["_law_brims", "_law_pipes", "_law_found", "_law_name_here", "_law_turn", "_law_more", "_law_ways_here", "_law_pair"]) (sc := defScope s_law_ways) (by decide +kernel)) (fun _ _ _ _ _ => (pg_name (i := 7) scLWays.nd rfl (Or.inl rfl))) (fun _ _ _ _ _ => pts_one (PW.pt (pw_and (pt_cmpR op_eq (pe_ix ix_tup (pv 7) pe_int (fun _ _ => rfl)) (pv 3) (nomark _)) (pw_and1 (pt_cmp (pc_din hu (pe_ix ix_tup (pv 7) pe_int (fun _ _ => rfl)) (pv 2))))))) (fun _ _ _ _ _ => (pe_op op_cat (pe_lst (pa_cons (pv 3) pa_nil)) (pe_dget hu (pv 2) (pe_ix ix_tup (pv 7) pe_int (fun _ _ => rfl)) (fun _ _ => rfl))))))
          (pss_one (ps_if (PW.pt (pw_and (pt_cmp (pc_dnotin hu (pv 3) (pv 2))) (pw_and1 (pt_cmpR (op_neD hr.units) (pv 6) (pe_lst pa_nil) (nomark _))))) (pss_one (ps_dput hu (pv 5) (pv 3) (pe_callB (Rl.cr_minD rfl hr.units) (by rfl) x_min (by decide +kernel) (pa_cons (pv 6) pa_nil)) rfl)) pss_nil)))))
        (pss_one (ps_expr (pe_bm PySem.F.plainAttrs_dict PySem.F.slot_dict_update PySem.F.type_dict_update Rl.mt_update (pv 2) (pa_cons (pv 5) pa_nil)))))))
      (pss_one (ps_ret (pv 2)))))), ?_⟩
    have wf := good.wf
    have ba : b ≠ a := fun e => by rw [e, hA] at hB; cases hB
    refine fun r nr => ?_
    have k0 := same_new (o := .dK []) nr
    have ra : r ≠ a := fun e => by rw [e, hA] at nr; cases nr
    have rb : r ≠ b := fun e => by rw [e, hB] at nr; cases nr
    obtain ⟨H0, eH0, hA0, hB0, hr0⟩ : ∃ X, X = upd H r (.dK []) ∧ X a = some (.dK (bk B)) ∧ X b = some (.dT (pt Pp)) ∧ X r = some (.dK (wk [])) := ⟨_, rfl, k0 a _ hA, k0 b _ hB, upd_same⟩
    rw [← eH0] at k0 ⊢
    clear eH0
    -- the ponds that soak
    refine ⟨a, _, hA0, trivial, fun od => ?_⟩
    refine ⟨.ref a, rfl, a, od, rfl, .inl ⟨_, upd_same, ?_⟩⟩
    refine for_it (n := (bk B).length) walk_keys (fun i σ H1 => ∃ (W : List (Str × Addr)) (y3 : Option V), σ = [some (.ref a), some (.ref b), some (.ref r), y3, none, none, none, none] ∧ H1 r = some (.dK (wk W)) ∧ (W.map Prod.fst).Nodup ∧ (∀ x, x ∈ W.map Prod.fst ↔ x ∈ nms (B.take i) ∧ Dst B Pp x 0) ∧ WysAt B Pp H1 W ∧ (∀ p ∈ W, H p.2 = none) ∧ ∀ x o, x ≠ r → (upd H0 a (.frz od (.dK (bk B)))) x = some o → H1 x = some o)
      ⟨[], none, rfl, by rw [upd_ne ra]; exact hr0, List.nodup_nil, fun x => ⟨fun h => absurd h List.not_mem_nil, fun h => absurd h.1 List.not_mem_nil⟩, fun p hp => absurd hp List.not_mem_nil, fun p hp => absurd hp List.not_mem_nil, fun x o _ e => e⟩ (fun i σ H1 _ ⟨_, _, _, _, _, _, _, _, h⟩ => h a _ (Ne.symm ra) upd_same) ?_ ?_
    · rintro i x σ H1 H1' hi ⟨W, y3, rfl, hr1, ndW, mW, wy1, nW, kp1⟩ ⟨rfl, kk, v, hkv, rfl⟩
      obtain ⟨p, hp, rfl, rfl⟩ := bk_at hkv
      have hm := List.mem_of_getElem? hp
      rw [bk_len] at hi
      have hA1 := kp1 a _ (Ne.symm ra) upd_same
      have hB1 := kp1 b _ (Ne.symm rb) (by rw [upd_ne ba]; exact hB0)
      have tk : B.take (i + 1) = B.take i ++ [p] := by rw [List.take_add_one, hp]; rfl
      have fz : p.1 ∉ nms (B.take i) := by
        have h1 : (nms (B.take (i + 1))).Nodup := wf.nb.sublist ((List.take_sublist _ _).map _)
        rw [tk, nms_append, List.nodup_append] at h1
        exact fun h => h1.2.2 p.1 h p.1 List.mem_cons_self rfl
      have d0 : Dst B Pp p.1 0 ↔ outW Pp p.1 < p.2 := by
        constructor
        · rintro ⟨h1, _⟩
          cases h1 with
          | soak h2 h3 =>
            have e1 := getB_of_mem wf.nb h2
            have e2 := getB_of_mem wf.nb (show (p.1, p.2) ∈ B from hm)
            rw [e1] at e2
            rw [← Option.some.inj e2]; exact h3
        · exact fun h => ⟨.soak (show (p.1, p.2) ∈ B from hm) h, fun m hm => absurd hm (Nat.not_lt_zero m)⟩
      refine pick_ok (K := K) (jp := 1) (jv := 7) (jn := 3) (c := 0) (z := p.1) (fun p => p.1.1) (fun p => .int p.2) at0 wf.lp hB1 rfl (fun _ => rfl) (fun _ => rfl) (fun _ => rfl) (fun p q od H2 R hm sm hq r => width_at wf.np hm sm hq rfl rfl r) fun D H2 s2 nD hD => ?_
      refine ⟨D, (Pp.filter fun q => decide (q.1.1 = p.1)).map (·.2), rfl, SqL.of (by rw [hD, List.map_map]; rfl), ?_⟩
      have hA2 := s2 a _ hA1
      refine ⟨.ref a, rfl, .str p.1, rfl, a, .int p.2, rfl, .inl ⟨_, Sum.inr p.1, .inr ⟨od, hA2⟩, rfl, by rw [valV_bk, getB_of_mem wf.nb (show (p.1, p.2) ∈ B from hm)]; rfl⟩, _, _, rfl, rfl, _, rfl, ite2 (fun c => ?_) (fun c => ?_)⟩
      · have c' : outW Pp p.1 < p.2 := of_decide_eq_true c
        refine ⟨.str p.1, rfl, line1000 (by show 1 ≤ 1000; decide), fun t nt => ?_⟩
        have s3 := same_new (o := .lst [.str p.1]) nt
        have hr3 := s3 r _ (s2 r _ hr1)
        have fW : p.1 ∉ W.map Prod.fst := fun h => fz ((mW p.1).mp h).1
        have lW : W.length ≤ 12 := by
          have h1 := len_le_of_sub ndW (m := nms B) (fun x hx => by
            obtain ⟨u, hu', e⟩ := List.mem_map.mp ((mW x).mp hx).1
            exact List.mem_map.mpr ⟨u, List.mem_of_mem_take hu', e⟩)
          have := wf.lb
          rw [List.length_map, nms_len] at h1
          omega
        refine ⟨.ref r, rfl, .str p.1, rfl, r, _, rfl, DPut.k (k := Sum.inr p.1) hr3 (by rw [wk_len]; exact small1000 (by omega)), ?_⟩
        rw [putK_new _ (valV_wk_none fW)]
        have tr : t ≠ r := fun e => by rw [e, s2 r _ hr1] at nt; cases nt
        have ntH : H t = none := by
          cases e : H t with
          | none => rfl
          | some o =>
            exfalso
            have e0 := k0 t o e
            by_cases ta : t = a
            · rw [ta, hA2] at nt; cases nt
            · have := s2 t o (kp1 t o tr (by rw [upd_ne ta]; exact e0))
              rw [nt] at this; cases this
        refine ⟨W ++ [(p.1, t)], _, rfl, by rw [upd_same, wk_app]; rfl, ?_, fun x => ?_, fun u hu' => ?_, fun u hu' => ?_, fun x o nx e => ?_⟩
        · rw [List.map_append, List.nodup_append]
          exact ⟨ndW, by simp, fun a' ha' b' hb' e => fW (by rw [List.map_singleton, List.mem_singleton] at hb'; rw [← hb', ← e]; exact ha')⟩
        · rw [List.map_append, List.mem_append, mW x, tk, nms_append, List.mem_append]
          constructor
          · rintro (⟨h1, h2⟩ | h1)
            · exact ⟨.inl h1, h2⟩
            · have h1 := List.mem_singleton.mp h1
              exact ⟨.inr (by rw [h1]; exact List.mem_cons_self), by rw [h1]; exact d0.mpr c'⟩
          · rintro ⟨h1 | h1, h2⟩
            · exact .inl ⟨h1, h2⟩
            · exact .inr h1
        · rcases List.mem_append.mp hu' with h | h
          · obtain ⟨L, h1, h2⟩ := wy1 u h
            have ur : u.2 ≠ r := fun e => by rw [e, hr1] at h1; cases h1
            exact ⟨L, by rw [upd_ne ur]; exact s3 _ _ (s2 _ _ h1), h2⟩
          · rw [List.mem_singleton.mp h]
            exact ⟨[p.1], by rw [upd_ne tr, upd_same]; rfl, .soak (d0.mpr c')⟩
        · rcases List.mem_append.mp hu' with h | h
          · exact nW u h
          · rw [List.mem_singleton.mp h]; exact ntH
        · rw [upd_ne nx]
          exact s3 x o (s2 x o (kp1 x o nx e))
      · refine ⟨W, _, rfl, s2 r _ hr1, ndW, fun x => ?_, fun u hu' => ?_, nW, fun x o nx e => s2 x o (kp1 x o nx e)⟩
        · rw [mW x, tk, nms_append, List.mem_append]
          constructor
          · exact fun h => ⟨.inl h.1, h.2⟩
          · rintro ⟨h1 | h1, h2⟩
            · exact ⟨h1, h2⟩
            · have h1 := List.mem_singleton.mp h1
              rw [h1] at h2
              exact absurd (decide_eq_true (d0.mp h2)) c
        · obtain ⟨L, h1, h2⟩ := wy1 u hu'
          exact ⟨L, s2 _ _ h1, h2⟩
    rintro σ H1 ⟨W, y3, rfl, hr1, ndW, mW, wy1, nW, kp1⟩
    refine ⟨kp1 a _ (Ne.symm ra) upd_same, ?_⟩
    rw [bk_len, List.take_length] at mW
    obtain ⟨H2, eH2, s02, hr2, wy2⟩ : ∃ X, X = upd H1 a (.dK (bk B)) ∧ Same H X ∧ X r = some (.dK (wk W)) ∧ WysAt B Pp X W := ⟨_, rfl, fun x o e => by
      by_cases xa : x = a
      · rw [xa, upd_same, ← hA, ← e, xa]
      · rw [upd_ne xa]
        exact kp1 x o (ne_of_none e nr) (by rw [upd_ne xa]; exact k0 x o e), by rw [upd_ne ra]; exact hr1, fun u hu' => by
      obtain ⟨L, h1, h2⟩ := wy1 u hu'
      refine ⟨L, ?_, h2⟩
      rw [upd_ne (fun e => by
        have := nW u hu'
        rw [e, hA] at this; cases this)]
      exact h1⟩
    rw [← eH2]
    clear eH2 hr1 wy1 kp1 hA0 hB0 hr0 k0
    -- turn by turn
    refine ⟨.ref a, rfl, a, _, rfl, s02 a _ hA, ?_⟩
    refine ⟨_, rfl, by rw [bk_len]; have := wf.lb; omega, by rw [bk_len]; have := wf.lb; omega, ?_⟩
    refine for_it walk_range (fun t σ H3 => ∃ (W : List (Str × Addr)) (y3 y4 y5 y6 : Option V), σ = [some (.ref a), some (.ref b), some (.ref r), y3, y4, y5, y6, none] ∧ H3 r = some (.dK (wk W)) ∧ (W.map Prod.fst).Nodup ∧ (∀ x, x ∈ W.map Prod.fst ↔ ∃ d, d ≤ t ∧ Dst B Pp x d) ∧ WysAt B Pp H3 W ∧ (∀ p ∈ W, H p.2 = none) ∧ Same H H3)
      ⟨W, y3, none, none, none, rfl, hr2, ndW, fun x => by
        rw [mW x]
        constructor
        · exact fun h => ⟨0, Nat.le_refl _, h.2⟩
        · rintro ⟨d, hd, dx⟩
          have : d = 0 := by omega
          subst this
          exact ⟨opnN_in wf dx.1, dx⟩, wy2, nW, s02⟩ (fun _ _ _ _ _ => trivial) ?_ ?_
    · clear s02 hr2 wy2 mW ndW nW
      rintro t x σ H3 H3' ht ⟨W, y3, y4, y5, y6, rfl, hr3, ndW, mW, wy3, nW, s3⟩ ⟨rfl, rfl⟩
      refine fun m nm => ?_
      have k4 := same_new (o := .dK []) nm
      have hA3 := s3 a _ hA
      have hB3 := s3 b _ hB
      have mr : m ≠ r := fun e => by rw [e, hr3] at nm; cases nm
      have ma : m ≠ a := fun e => by rw [e, hA3] at nm; cases nm
      have mb : m ≠ b := fun e => by rw [e, hB3] at nm; cases nm
      have nmH : H m = none := s3.free nm
      have lW : W.length ≤ 12 := by
        have h1 := len_le_of_sub ndW (m := nms B) (fun x hx => by
          obtain ⟨d, _, dx⟩ := (mW x).mp hx
          exact opnN_in wf dx.1)
        have := wf.lb
        rw [List.length_map, nms_len] at h1
        omega
      obtain ⟨H4, eH4, hm4⟩ : ∃ X, X = upd H3' m (.dK []) ∧ X m = some (.dK (wk [])) := ⟨_, rfl, upd_same⟩
      rw [← eH4] at k4 ⊢
      clear eH4
      have hA4 := k4 a _ hA3
      have hB4 := k4 b _ hB3
      have hr4 := k4 r _ hr3
      have s4 := s3.trans k4
      have wy4 : WysAt B Pp H4 W := fun u hu' => by
        obtain ⟨L, h1, h2⟩ := wy3 u hu'
        exact ⟨L, k4 _ _ h1, h2⟩
      refine ⟨a, _, hA4, trivial, fun od => ?_⟩
      refine ⟨.ref a, rfl, a, od, rfl, .inl ⟨_, upd_same, ?_⟩⟩
      refine for_it (n := (bk B).length) walk_keys (fun i σ H5 => ∃ (M : List (Str × Addr)) (y3 y6 : Option V), σ = [some (.ref a), some (.ref b), some (.ref r), y3, some (.int (0 + (t : Int))), some (.ref m), y6, none] ∧ H5 m = some (.dK (wk M)) ∧ (M.map Prod.fst).Nodup ∧ (∀ x, x ∈ M.map Prod.fst ↔ x ∈ nms (B.take i) ∧ Dst B Pp x (t + 1)) ∧ WysAt B Pp H5 M ∧ (∀ p ∈ M, H p.2 = none) ∧ ∀ x o, x ≠ m → (upd H4 a (.frz od (.dK (bk B)))) x = some o → H5 x = some o)
        ⟨[], y3, y6, rfl, by rw [upd_ne ma]; exact hm4, List.nodup_nil, fun x => ⟨fun h => absurd h List.not_mem_nil, fun h => absurd h.1 List.not_mem_nil⟩, fun p hp => absurd hp List.not_mem_nil, fun p hp => absurd hp List.not_mem_nil, fun x o _ e => e⟩ (fun i σ H1 _ ⟨_, _, _, _, _, _, _, _, _, h⟩ => h a _ (Ne.symm ma) upd_same) ?_ ?_
      · rintro i x σ H5 H5' hi ⟨M, y3, y6, rfl, hm5, ndM, mM, wy5, nM, kp5⟩ ⟨rfl, kk, v, hkv, rfl⟩
        obtain ⟨p, hp, rfl, rfl⟩ := bk_at hkv
        have hm := List.mem_of_getElem? hp
        rw [bk_len] at hi
        have hA5 := kp5 a _ (Ne.symm ma) upd_same
        have hB5 := kp5 b _ (Ne.symm mb) (by rw [upd_ne ba]; exact hB4)
        have hr5 := kp5 r _ (Ne.symm mr) (by rw [upd_ne ra]; exact hr4)
        have wyW : WysAt B Pp H5' W := fun u hu' => by
          obtain ⟨L, h1, h2⟩ := wy4 u hu'
          exact ⟨L, kp5 _ _ (fun e => by rw [e, hm4] at h1; cases h1) (by rw [upd_ne (fun e => by rw [e, hA4] at h1; cases h1)]; exact h1), h2⟩
        have tkB : B.take (i + 1) = B.take i ++ [p] := by rw [List.take_add_one, hp]; rfl
        have fz : p.1 ∉ nms (B.take i) := by
          have h1 : (nms (B.take (i + 1))).Nodup := wf.nb.sublist ((List.take_sublist _ _).map _)
          rw [tkB, nms_append, List.nodup_append] at h1
          exact fun h => h1.2.2 p.1 h p.1 List.mem_cons_self rfl
        -- the ways by the next ponds
        refine ⟨b, _, hB5, trivial, fun od2 => ?_⟩
        refine ⟨.ref b, rfl, b, od2, rfl, .inr ⟨_, upd_same, fun D nD => ?_⟩⟩
        have hDb : D ≠ b := fun e => by rw [e, upd_same] at nD; cases nD
        have nDH5 : H5' D = none := by rw [upd_ne hDb] at nD; exact nD
        have rb' : r ≠ b := rb
        refine lc_it (n := (pt Pp).length) walk_keysT (fun k H6 => ∃ Gs : List (Str × List Str × Addr), H6 D = some (.lst (Gs.map fun g => V.ref g.2.2)) ∧ Gs.length ≤ k ∧ (∀ g ∈ Gs, H6 g.2.2 = some (.lst ((p.1 :: g.2.1).map V.str)) ∧ Wy B Pp g.1 g.2.1 ∧ g.1 ∈ W.map Prod.fst ∧ (∃ w, ((p.1, g.1), w) ∈ Pp) ∧ H g.2.2 = none) ∧ (∀ y w, ((p.1, y), w) ∈ Pp.take k → y ∈ W.map Prod.fst → y ∈ Gs.map (·.1)) ∧ Same (upd H5' b (.frz od2 (.dT (pt Pp)))) H6)
          ⟨[], upd_same, Nat.le_refl _, fun g hg => absurd hg List.not_mem_nil, fun y w h => absurd h List.not_mem_nil, same_new nD⟩ (fun i H1 _ ⟨_, _, _, _, _, h⟩ => h b _ upd_same) ?_ ?_
        · rintro k x H6 H6' hk ⟨Gs, hD6, lG, okG, inG, s6⟩ ⟨rfl, kk, v, qq, hkv, rfl, hq⟩
          obtain ⟨e, he, rfl, rfl⟩ := pt_at hkv
          have hme := List.mem_of_getElem? he
          have tkP : Pp.take (k + 1) = Pp.take k ++ [e] := by rw [List.take_add_one, he]; rfl
          have hr6 := s6 r _ (by rw [upd_ne rb]; exact hr5)
          have lP := wf.lp
          rw [pt_len] at hk
          refine ⟨rfl, .ref qq, rfl, qq, _, 0, .str e.1.1, rfl, rfl, SqT.of hq, at0 e, .str p.1, rfl, rfl, _, rfl, ?_⟩
          rw [decStr]
          refine ite2 (fun c => ?_) (fun c => ?_)
          · have c' : e.1.1 = p.1 := of_decide_eq_true c
            refine ⟨.ref qq, rfl, qq, _, 1, .str e.1.2, rfl, rfl, SqT.of hq, at1 e, .ref r, rfl, r, valV (wk W) (Sum.inr e.1.2), rfl, .inl ⟨_, Sum.inr e.1.2, .inl hr6, rfl, rfl⟩, _, rfl, ?_⟩
            rw [valV_wk_isSome W ndW]
            refine ite2 (fun c2 => ?_) (fun c2 => ?_)
            · have c2' : e.1.2 ∈ W.map Prod.fst := of_decide_eq_true c2
              obtain ⟨u, hu', eu⟩ := List.mem_map.mp c2'
              obtain ⟨L, hL, wL⟩ := wyW u hu'
              have hL6 := s6 u.2 _ (by rw [upd_ne (fun z => by rw [z, hB5] at hL; cases hL)]; exact hL)
              have lL : L.length ≤ 13 := by
                obtain ⟨d, dd, e1⟩ := wL.len
                have := d12_of wf dd
                omega
              refine ⟨.str p.1, rfl, line1000 (by show 1 ≤ 1000; decide), fun f nf => ?_⟩
              have s7 := same_new (o := .lst [.str p.1]) nf
              refine ⟨.ref r, rfl, .ref qq, rfl, qq, _, 1, .str e.1.2, rfl, rfl, SqT.of (s7 qq _ hq), at1 e, r, .ref u.2, rfl, .inl ⟨_, Sum.inr e.1.2, .inl (s7 r _ hr6), rfl, (by rw [← show u.1 = e.1.2 from eu]; exact (valV_wk ndW hu').symm)⟩, ?_⟩
              refine ⟨f, u.2, _, _, rfl, rfl, upd_same, s7 u.2 _ hL6, by rw [List.length_map]; exact line1000 (by show 1 + L.length ≤ 1000; omega), fun g ng => ?_⟩
              have s8 := s7.trans (same_new (o := .lst ([.str p.1] ++ L.map V.str)) ng)
              have gD : g ≠ D := fun z => by rw [z, s7 D _ hD6] at ng; cases ng
              have ngH : H g = none := by
                cases z : H g with
                | none => rfl
                | some o =>
                  exfalso
                  have z3 := s4 g o z
                  have gm : g ≠ m := fun y => by rw [y, nmH] at z; cases z
                  by_cases ga : g = a
                  · have := s7 a _ (s6 a _ (by rw [upd_ne (Ne.symm ba)]; exact hA5))
                    rw [← ga, ng] at this; cases this
                  · have z5 := kp5 g o gm (by rw [upd_ne ga]; exact z3)
                    by_cases gb : g = b
                    · have := s7 b _ (s6 b _ upd_same)
                      rw [← gb, ng] at this; cases this
                    · have := s7 g _ (s6 g o (by rw [upd_ne gb]; exact z5))
                      rw [ng] at this; cases this
              refine ⟨_, s8 D _ hD6, by rw [List.length_map]; exact small1000 (by omega), Gs ++ [(e.1.2, L, g)], ?_, ?_, fun h hh => ?_, fun y w hy mw => ?_, fun x o ex => ?_⟩
              · rw [upd_same, List.map_append]; rfl
              · rw [List.length_append]; show Gs.length + 1 ≤ k + 1; omega
              · rcases List.mem_append.mp hh with hh | hh
                · obtain ⟨h1, h2⟩ := okG h hh
                  exact ⟨by rw [upd_ne (fun z => by rw [z, hD6] at h1; injection (Option.some.inj h1) with z2; cases hGs : Gs with | nil => rw [hGs] at hh; cases hh | cons a' r' => rw [hGs] at z2; cases z2)]; exact s8 _ _ h1, h2⟩
                · rw [List.mem_singleton.mp hh]
                  exact ⟨by rw [upd_ne gD, upd_same]; rfl, by rw [← show u.1 = e.1.2 from eu]; exact wL, c2', ⟨e.2, by rw [← c']; exact hme⟩, ngH⟩
              · rw [tkP] at hy
                rw [List.map_append]
                rcases List.mem_append.mp hy with hy | hy
                · exact List.mem_append_left _ (inG y w hy mw)
                · have e1 := List.mem_singleton.mp hy
                  exact List.mem_append_right _ (by rw [← e1]; exact List.mem_cons_self)
              · rw [upd_ne (ne_of_none ex nD)]
                exact s8 x o (s6 x o ex)
            · refine ⟨Gs, hD6, by omega, okG, fun y w hy mw => ?_, s6⟩
              rw [tkP] at hy
              rcases List.mem_append.mp hy with hy | hy
              · exact inG y w hy mw
              · have e1 := List.mem_singleton.mp hy
                exact absurd (decide_eq_true (by rw [← e1]; exact mw)) c2
          · refine ⟨Gs, hD6, by omega, okG, fun y w hy mw => ?_, s6⟩
            rw [tkP] at hy
            rcases List.mem_append.mp hy with hy | hy
            · exact inG y w hy mw
            · have e1 := List.mem_singleton.mp hy
              exact absurd (decide_eq_true (by rw [← e1])) c
        rintro H6 ⟨Gs, hD6, lG, okG, inG, s6⟩
        rw [pt_len, List.take_length] at inG
        rw [pt_len] at lG
        refine ⟨s6 b _ upd_same, ?_⟩
        have hr7 : upd H6 b (.dT (pt Pp)) r = some (.dK (wk W)) := by rw [upd_ne rb]; exact s6 r _ (by rw [upd_ne rb]; exact hr5)
        have hD7 : upd H6 b (.dT (pt Pp)) D = some (.lst (Gs.map fun g => V.ref g.2.2)) := by rw [upd_ne hDb]; exact hD6
        have hm7 : upd H6 b (.dT (pt Pp)) m = some (.dK (wk M)) := by rw [upd_ne mb]; exact s6 m _ (by rw [upd_ne mb]; exact hm5)
        have hG7 : ∀ g ∈ Gs, upd H6 b (.dT (pt Pp)) g.2.2 = some (.lst ((p.1 :: g.2.1).map V.str)) := fun g hg => by
          have h1 := (okG g hg).1
          rw [upd_ne (fun e => by rw [e, s6 b _ upd_same] at h1; cases h1)]; exact h1
        have k7 : ∀ x o, H5' x = some o → upd H6 b (.dT (pt Pp)) x = some o := fun x o e5 => by
          by_cases xb : x = b
          · rw [xb, upd_same, ← hB5, ← xb, e5]
          · rw [upd_ne xb]; exact s6 x o (by rw [upd_ne xb]; exact e5)
        obtain ⟨H7, eH7⟩ : ∃ X, X = upd H6 b (.dT (pt Pp)) := ⟨_, rfl⟩
        rw [← eH7] at hr7 hD7 hm7 hG7 k7 ⊢
        have okG' : ∀ g ∈ Gs, Wy B Pp g.1 g.2.1 ∧ g.1 ∈ W.map Prod.fst ∧ (∃ w, ((p.1, g.1), w) ∈ Pp) ∧ H g.2.2 = none := fun g hg => (okG g hg).2
        clear eH7 okG s6 hD6
        have zin : p.1 ∈ nms B := List.mem_map.mpr ⟨p, hm, rfl⟩
        have zw : p.1 ∉ W.map Prod.fst → ∀ g ∈ Gs, Dst B Pp p.1 (t + 1) ∧ Dst B Pp g.1 t := fun nz g hg => by
          obtain ⟨_, h2, ⟨w, hp'⟩, _⟩ := okG' g hg
          obtain ⟨d, ld, dg⟩ := (mW g.1).mp h2
          obtain ⟨e, le, de⟩ := Dst.on hp' dg
          have : ¬ e ≤ t := fun c => nz ((mW p.1).mpr ⟨e, c, de⟩)
          have e1 : e = t + 1 := by omega
          have e2 : d = t := by omega
          rw [e1] at de
          rw [e2] at dg
          exact ⟨de, dg⟩
        have zb : Dst B Pp p.1 (t + 1) → p.1 ∉ W.map Prod.fst ∧ Gs ≠ [] := fun dz => by
          refine ⟨fun c => ?_, fun c => ?_⟩
          · obtain ⟨d, ld, dd⟩ := (mW p.1).mp c
            have := dd.uniq dz
            omega
          · obtain ⟨y, w, hp', dy⟩ := dz.back
            have := inG y w hp' ((mW y).mpr ⟨t, Nat.le_refl _, dy⟩)
            rw [c] at this
            cases this
        have stay : ¬ Dst B Pp p.1 (t + 1) → ∀ x, x ∈ M.map Prod.fst ↔ x ∈ nms (B.take (i + 1)) ∧ Dst B Pp x (t + 1) := fun nz x => by
          rw [mM x, tkB, nms_append, List.mem_append]
          constructor
          · exact fun h => ⟨.inl h.1, h.2⟩
          · rintro ⟨h1 | h1, h2⟩
            · exact ⟨h1, h2⟩
            · have h1 := List.mem_singleton.mp h1
              rw [h1] at h2
              exact absurd h2 nz
        have kp7 : ∀ x o, x ≠ m → (upd H4 a (.frz od (.dK (bk B)))) x = some o → H7 x = some o := fun x o nx e => k7 x o (kp5 x o nx e)
        have wy7 : WysAt B Pp H7 M := fun u hu' => by
          obtain ⟨L, h1, h2⟩ := wy5 u hu'
          exact ⟨L, k7 _ _ h1, h2⟩
        refine ⟨.str p.1, rfl, .ref r, rfl, r, _, rfl, .inl ⟨_, Sum.inr p.1, .inl hr7, rfl, rfl⟩, _, rfl, ?_⟩
        rw [valV_wk_isSome W ndW]
        refine ite2 (fun c => ?_) (fun c => ?_)
        · have nz : p.1 ∉ W.map Prod.fst := fun z => by rw [decide_eq_true z] at c; cases c
          refine ⟨.ref D, rfl, Nat.zero_le _, fun em nem => ?_⟩
          have s8 := same_new (o := .lst []) nem
          have hGD : ∀ (H' : Hp), (∀ g ∈ Gs, H' g.2.2 = some (.lst ((p.1 :: g.2.1).map V.str))) → DpAll K H' (Gs.map fun g => V.ref g.2.2) ((Gs.map fun g => p.1 :: g.2.1).map sD) := by
            intro H' hh
            clear wy7 stay zb zw inG hD7 lG hG7
            induction Gs with
            | nil => exact .nil
            | cons g r' ih => exact .cons (sD_dp (hh g List.mem_cons_self)) (ih (fun g hg => okG' g (List.mem_cons_of_mem _ hg)) (fun g hg => hh g (List.mem_cons_of_mem _ hg)))
          have okL : ∀ L ∈ Gs.map (fun g => p.1 :: g.2.1), ∀ z ∈ L, PyData.strOk z = true := fun L hL z hz => by
            obtain ⟨g, hg, rfl⟩ := List.mem_map.mp hL
            have zn : z ∈ nms B := by
              rcases List.mem_cons.mp hz with e | e
              · rw [e]; exact zin
              · exact (okG' g hg).1.mem wf z e
            exact (nm_in good zn).sm.strOk
          refine ⟨.list ((Gs.map fun (g : Str × List Str × Addr) => p.1 :: g.2.1).map sD), .list [], .lst (SqL.of (s8 D _ hD7)) (hGD _ fun g hg => s8 _ _ (hG7 g hg)), .lst (SqL.of upd_same) .nil, sDs_shaped okL, (by rfl), _, rfl, ?_⟩
          have e0 : (!PyData.eqv (.list ((Gs.map fun (g : Str × List Str × Addr) => p.1 :: g.2.1).map sD)) (.list [])) = true ↔ Gs ≠ [] := by
            cases Gs with
            | nil => simp [PyData.eqv, PyData.eqvAll]
            | cons g0 Gr => simp [PyData.eqv, PyData.eqvAll]
          refine ite2 (fun c2 => ?_) (fun c2 => ?_)
          · have ne0 := e0.mp c2
            obtain ⟨g0, Gr, hGs⟩ : ∃ g0 Gr, Gs = g0 :: Gr := by
              cases Gs with
              | nil => exact absurd rfl ne0
              | cons g0 Gr => exact ⟨g0, Gr, rfl⟩
            have dz := (zw nz g0 (by rw [hGs]; exact List.mem_cons_self)).1
            have hm8 := s8 m _ hm7
            have all := (sDs_lay okL).2
            refine ⟨.ref D, rfl, D, Gs.map fun g => V.ref g.2.2, sD (p.1 :: g0.2.1), (Gr.map fun g => p.1 :: g.2.1).map sD, rfl, SqL.of (s8 D _ hD7), ?_, ?_, ?_, fun ix v hv hd => ?_⟩
            · have := hGD _ fun g hg => s8 _ _ (hG7 g hg)
              rw [hGs] at this ⊢
              exact this
            · have mm : ∀ x ∈ sD (p.1 :: g0.2.1) :: (Gr.map fun (g : Str × List Str × Addr) => p.1 :: g.2.1).map sD, ∃ L, x = sD L := fun x hx => by
                rcases List.mem_cons.mp hx with e | e
                · exact ⟨_, e⟩
                · obtain ⟨L, _, rfl⟩ := List.mem_map.mp e
                  exact ⟨L, rfl⟩
              refine ⟨fun x hx y hy => ?_, fun x hx => ?_⟩
              · obtain ⟨L, rfl⟩ := mm x hx
                obtain ⟨L', rfl⟩ := mm y hy
                exact sD_alike _ _
              · obtain ⟨L, rfl⟩ := mm x hx
                exact fun e => by unfold sD at e; cases e
            · rw [hGs] at all
              exact Nat.le_trans all (by decide)
            · have eqD : sD (p.1 :: g0.2.1) :: (Gr.map fun (g : Str × List Str × Addr) => p.1 :: g.2.1).map sD = Gs.map fun (g : Str × List Str × Addr) => sD (p.1 :: g.2.1) := by
                rw [hGs, List.map_map]; rfl
              have least := minD_least (sD (p.1 :: g0.2.1)) ((Gr.map fun (g : Str × List Str × Addr) => p.1 :: g.2.1).map sD)
              rw [eqD] at hd least
              rw [List.getElem?_map] at hv hd
              obtain ⟨g, hg, hv⟩ := Option.map_eq_some_iff.mp hv
              rw [hg] at hd
              have hd : sD (p.1 :: g.2.1) = PySem.W.minD _ _ := Option.some.inj hd
              subst hv
              have hgm := List.mem_of_getElem? hg
              rw [← hd] at least
              have fM : p.1 ∉ M.map Prod.fst := fun h => fz ((mM p.1).mp h).1
              have lM : M.length ≤ 12 := by
                have h1 := len_le_of_sub ndM (m := nms B) (fun x hx => by
                  obtain ⟨u, hu', e⟩ := List.mem_map.mp ((mM x).mp hx).1
                  exact List.mem_map.mpr ⟨u, List.mem_of_mem_take hu', e⟩)
                have := wf.lb
                rw [List.length_map, nms_len] at h1
                omega
              obtain ⟨wyg, _, ⟨w, hpg⟩, nHg⟩ := okG' g hgm
              obtain ⟨_, dg⟩ := zw nz g hgm
              have wyz : Wy B Pp p.1 (p.1 :: g.2.1) := .step dz hpg dg (fun y' v' hp' dy' lt => by
                have hy := inG y' v' hp' ((mW y').mpr ⟨t, Nat.le_refl _, dy'⟩)
                obtain ⟨g', hg', eg'⟩ := List.mem_map.mp hy
                have h1 := (okG' g' hg').1
                obtain ⟨L1, e1⟩ := h1.head
                obtain ⟨L2, e2⟩ := wyg.head
                have h2 := least (sD (p.1 :: g'.2.1)) (List.mem_map.mpr ⟨g', hg', rfl⟩)
                rw [e1, e2, sD_lt (by rw [show g'.1 = y' from eg']; exact lt)] at h2
                cases h2) wyg
              refine ⟨.ref m, rfl, .str p.1, rfl, m, _, rfl, DPut.k (k := Sum.inr p.1) hm8 (by rw [wk_len]; exact small1000 (by omega)), ?_⟩
              rw [putK_new _ (valV_wk_none fM)]
              refine ⟨M ++ [(p.1, g.2.2)], _, _, rfl, by rw [upd_same, wk_app]; rfl, ?_, fun x => ?_, fun u hu' => ?_, fun u hu' => ?_, fun x o nx e => ?_⟩
              · rw [List.map_append, List.nodup_append]
                exact ⟨ndM, by simp, fun a' ha' b' hb' e => fM (by rw [List.map_singleton, List.mem_singleton] at hb'; rw [← hb', ← e]; exact ha')⟩
              · rw [List.map_append, List.mem_append, mM x, tkB, nms_append, List.mem_append]
                constructor
                · rintro (⟨h1, h2⟩ | h1)
                  · exact ⟨.inl h1, h2⟩
                  · have h1 := List.mem_singleton.mp h1
                    exact ⟨.inr (by rw [h1]; exact List.mem_cons_self), by rw [h1]; exact dz⟩
                · rintro ⟨h1 | h1, h2⟩
                  · exact .inl ⟨h1, h2⟩
                  · exact .inr h1
              · rcases List.mem_append.mp hu' with h | h
                · obtain ⟨L, h1, h2⟩ := wy7 u h
                  have ur : u.2 ≠ m := fun e => by rw [e, hm7] at h1; cases h1
                  exact ⟨L, by rw [upd_ne ur]; exact s8 _ _ h1, h2⟩
                · rw [List.mem_singleton.mp h]
                  have h1 := hG7 g hgm
                  have gm : g.2.2 ≠ m := fun e => by rw [e, hm7] at h1; cases h1
                  exact ⟨p.1 :: g.2.1, by rw [upd_ne gm]; exact s8 _ _ h1, wyz⟩
              · rcases List.mem_append.mp hu' with h | h
                · exact nM u h
                · rw [List.mem_singleton.mp h]; exact nHg
              · rw [upd_ne nx]
                exact s8 x o (kp7 x o nx e)
          · have nz : ¬ Dst B Pp p.1 (t + 1) := fun dz => c2 (e0.mpr (zb dz).2)
            refine ⟨M, _, _, rfl, s8 m _ hm7, ndM, stay nz, fun u hu' => ?_, nM, fun x o nx e => s8 x o (kp7 x o nx e)⟩
            obtain ⟨L, h1, h2⟩ := wy7 u hu'
            exact ⟨L, s8 _ _ h1, h2⟩
        · have nz : ¬ Dst B Pp p.1 (t + 1) := fun dz => c (by rw [decide_eq_false (zb dz).1]; rfl)
          exact ⟨M, _, _, rfl, hm7, ndM, stay nz, wy7, nM, kp7⟩
      rintro σ H5 ⟨M, y3, y6, rfl, hm5, ndM, mM, wy5, nM, kp5⟩
      refine ⟨kp5 a _ (Ne.symm ma) upd_same, ?_⟩
      rw [bk_len, List.take_length] at mM
      have hm6 : upd H5 a (.dK (bk B)) m = some (.dK (wk M)) := by rw [upd_ne ma]; exact hm5
      have hr6 : upd H5 a (.dK (bk B)) r = some (.dK (wk W)) := by rw [upd_ne ra]; exact kp5 r _ (Ne.symm mr) (by rw [upd_ne ra]; exact hr4)
      have lM : M.length ≤ 12 := by
        have h1 := len_le_of_sub ndM (m := nms B) (fun x hx => ((mM x).mp hx).1)
        have := wf.lb
        rw [List.length_map, nms_len] at h1
        omega
      have k6 : ∀ x o, x ≠ m → H4 x = some o → upd H5 a (.dK (bk B)) x = some o := fun x o nx e => by
        by_cases xa : x = a
        · rw [xa, upd_same, ← hA4, ← xa, e]
        · rw [upd_ne xa]; exact kp5 x o nx (by rw [upd_ne xa]; exact e)
      have wyM : WysAt B Pp (upd H5 a (.dK (bk B))) M := fun u hu' => by
        obtain ⟨L, h1, h2⟩ := wy5 u hu'
        refine ⟨L, ?_, h2⟩
        rw [upd_ne (fun e => by
          have := nM u hu'
          rw [e, hA] at this; cases this)]
        exact h1
      obtain ⟨H6, eH6⟩ : ∃ X, X = upd H5 a (.dK (bk B)) := ⟨_, rfl⟩
      rw [← eH6] at hm6 hr6 k6 wyM ⊢
      clear eH6 hm5 wy5 kp5
      have ndWM : ((W ++ M).map Prod.fst).Nodup := by
        rw [List.map_append, List.nodup_append]
        refine ⟨ndW, ndM, fun x hx y hy e => ?_⟩
        obtain ⟨d, ld, dx⟩ := (mW x).mp hx
        have := dx.uniq (e ▸ ((mM y).mp hy).2)
        omega
      refine ⟨.ref r, rfl, .inr (.inr (.inl ⟨rfl, .inl ⟨_, hr6⟩⟩)), .ref m, rfl, r, m, _, _, rfl, rfl, Ne.symm mr, hr6, hm6, by rw [wk_len, wk_len]; omega, ?_⟩
      rw [merge_wk M W ndWM]
      refine ⟨W ++ M, _, _, _, _, rfl, upd_same, ndWM, fun x => ?_, fun u hu' => ?_, fun u hu' => ?_, fun x o e => ?_⟩
      · rw [List.map_append, List.mem_append, mW x, mM x]
        constructor
        · rintro (⟨d, ld, dx⟩ | ⟨_, dx⟩)
          · exact ⟨d, by omega, dx⟩
          · exact ⟨t + 1, Nat.le_refl _, dx⟩
        · rintro ⟨d, ld, dx⟩
          by_cases c : d ≤ t
          · exact .inl ⟨d, c, dx⟩
          · have : d = t + 1 := by omega
            rw [this] at dx
            exact .inr ⟨opnN_in wf dx.1, dx⟩
      · rcases List.mem_append.mp hu' with h | h
        · obtain ⟨L, h1, h2⟩ := wy4 u h
          have um : u.2 ≠ m := fun e => by rw [e, hm4] at h1; cases h1
          have h3 := k6 _ _ um h1
          exact ⟨L, by rw [upd_ne (fun e => by rw [e, hr6] at h3; cases h3)]; exact h3, h2⟩
        · obtain ⟨L, h1, h2⟩ := wyM u h
          exact ⟨L, by rw [upd_ne (fun e => by rw [e, hr6] at h1; cases h1)]; exact h1, h2⟩
      · rcases List.mem_append.mp hu' with h | h
        · exact nW u h
        · exact nM u h
      · rw [upd_ne (ne_of_none e nr)]
        exact k6 x o (ne_of_none e nmH) (s4 x o e)
    · rintro σ H3 ⟨W, y3, y4, y5, y6, rfl, hr3, ndW, mW, wy3, nW, s3⟩
      refine ⟨.ref r, rfl, q H3 r W s3 nr hr3 ndW (fun x => ?_) wy3 nW⟩
      rw [mW x]
      constructor
      · rintro ⟨d, _, dx⟩
        exact opnN_in wf dx.1
      · intro hx
        obtain ⟨d, dx⟩ := dst_of (good.op x hx)
        have := dlt_of wf dx
        exact ⟨d, by rw [bk_len]; omega, dx⟩
end
end Nl
end
section
set_option maxHeartbeats 4000000
namespace Nl
open PySem PySem.Spec PyProof.Rows L2 Nt
theorem sD_same (L : List Str) : PyData.eqv (sD L) (sD L) = true := by
  have : ∀ l : List Str, PyData.eqvAll (l.map PyData.str) (l.map PyData.str) = true := fun l => by
    induction l with
    | nil => simp [PyData.eqvAll]
    | cons z l ih => simp [PyData.eqvAll, PyData.eqv, ih]
  unfold sD
  simp [PyData.eqv, this L]
theorem wk_at {W : List (Str × Addr)} {i : Nat} {k : Key} {v : V} (h : (wk W)[i]? = some (k, v)) : ∃ p, W[i]? = some p ∧ k = Sum.inr p.1 ∧ v = .ref p.2 := by
  unfold wk at h
  rw [List.getElem?_map] at h
  cases e : W[i]? with
  | none => rw [e] at h; cases h
  | some p =>
    rw [e] at h
    have := Option.some.inj h
    injection this with h1 h2
    exact ⟨p, rfl, h1.symm, h2.symm⟩
def spAreTold (C : Addr) : Sp := fun vs H Q _ => ∃ (n r : Addr) (B : Br) (Pp : Pi) (W : List (Str × Addr)) (H0 : Hp), vs = [.ref n, .ref r] ∧ NetAt C H0 n B Pp ∧ H0 r = none ∧ Same H0 H ∧ Good B Pp ∧ SrtP Pp ∧ H r = some (.dK (wk W)) ∧ (W.map Prod.fst).Nodup ∧ (∀ x ∈ W.map Prod.fst, x ∈ nms B) ∧ WysAt B Pp H W ∧ ∀ H', Same H H' → Q (.bl true) H'
section
variable {P : Program} {w : World} {K : PySem.W.Frag} {mg : Str → Option Value} {base : Heap}
theorem scAreTold : FnScope ["_law_net_here", "_law_ways_here", "_law_name_here", "_law_told"] ["_law_net_here", "_law_ways_here"] (defScope s_law_are_told) := ⟨rfl, rfl, rfl, by decide +kernel, rfl, by decide +kernel, by decide +kernel⟩
theorem ok_areTold {f f_wayOut C : Addr} {fd fd_wayOut : FuncData} (F : Fun K "_law_are_told" "_law_are_told" s_law_are_told f fd) (T : TxN K mg C)
    (F_wayOut : Fun K "way_out" "way_out" s_way_out f_wayOut fd_wayOut) (G_wayOut : FnOk P w K mg base CX0 6 f_wayOut fd_wayOut ["net", "name"] (spWayOut C)) (b_wayOut : Binds K fd_wayOut ["net", "name"] []) (g_wayOut : mg "way_out" = some (.ref f_wayOut))
    (x_isinstance : mg "isinstance" = none)
    (x_list : mg "list" = none) : FnOk P w K mg base CX0 7 f fd ["_law_net_here", "_law_ways_here"] (spAreTold C) := by
  refine F.ok scAreTold (fun vs H Q E h => ?_) (fun cdv A outer s H vs Q E hr h => ?_)
  · obtain ⟨n, r, B, Pp, W, H0, rfl, _⟩ := h
    rfl
  · obtain ⟨n, r, B, Pp, W, H0, rfl, N0, r0, s0, good, srt, hR, ndW, inW, wy, q⟩ := h
    have hu := hu_of hr
    refine ⟨_, (pss_cons (ps_lock (ps_for PassesOwn.never rfl (pi_keys (pv 1)) (pg_name (i := 2) scAreTold.nd rfl (by first | exact .inl rfl | exact .inr rfl))
        (pss_cons (ps_set (i := 3) scAreTold.nd rfl (by first | exact .inl rfl | exact .inr rfl) (pe_call G_wayOut hr (by rfl) g_wayOut F_wayOut.kp b_wayOut .nil pass0 (pa_cons (pv 0) (pa_cons (pv 2) pa_nil))))
        (pss_cons (ps_if (PW.pt (pw_or (pt_not (pt_val (pe_callB call_isi (by rfl) x_isinstance (by decide +kernel) (pa_cons (pv 3) (pa_cons (pe_bltn (v := .ty "list") (by rfl) x_list (by decide +kernel) rfl) pa_nil))))) (pw_or1 (pt_cmpR (op_neD hr.units) (pv 3) (pe_dget hu (pv 1) (pv 2) (fun _ _ => rfl)) (nomark _))))) (pss_one (ps_ret pe_bl)) pss_nil)
        (pss_one (ps_expr (pe_bm0 PySem.F.plainAttrs_list PySem.F.slot_list_clear PySem.F.type_list_clear mt_clear (pv 3))))))))
      (pss_one (ps_ret pe_bl))), ?_⟩
    refine ⟨r, _, hR, trivial, fun od => ?_⟩
    refine ⟨.ref r, rfl, r, od, rfl, .inl ⟨_, upd_same, ?_⟩⟩
    refine for_it (n := (wk W).length) walk_keys (fun i σ H1 => ∃ (y2 y3 : Option V), σ = [some (.ref n), some (.ref r), y2, y3] ∧ Same (upd H r (.frz od (.dK (wk W)))) H1)
      ⟨none, none, rfl, fun _ _ e => e⟩ (fun i σ H1 _ ⟨_, _, _, h⟩ => h r _ upd_same) ?_ ?_
    · rintro i x σ H1 H1' hi ⟨y2, y3, rfl, s1⟩ ⟨rfl, kk, v, hkv, rfl⟩
      obtain ⟨p, hp, rfl, rfl⟩ := wk_at hkv
      have hm := List.mem_of_getElem? hp
      have zin := inW p.1 (List.mem_map.mpr ⟨p, hm, rfl⟩)
      have s01 : Same H0 H1' := fun x o e => s1 x o (by rw [upd_ne (ne_of_none e r0)]; exact s0 x o e)
      obtain ⟨L, hL, wL⟩ := wy p hm
      have hL1 : H1' p.2 = some (.lst (L.map V.str)) := s1 _ _ (by rw [upd_ne (fun e => by rw [e, hR] at hL; cases hL)]; exact hL)
      refine ⟨.ref n, rfl, .str p.1, rfl, n, B, Pp, p.1, rfl, N0.same s01, good, srt, zin, fun H2 t L2 s2 nt ht wL2 => ?_⟩
      have eL := wL2.uniq wL
      subst eL
      have ok : ∀ z ∈ L2, PyData.strOk z = true := fun z hz => (nm_in good (wL.mem good.wf z hz)).sm.strOk
      refine ⟨.ref t, rfl, .ref t, .ty "list", .type "list", .type "list", true, rfl, .ty _, .base (.lst ht), kit_ty (by decide +kernel), true, rfl, iteF ?_⟩
      refine ⟨.ref t, rfl, .ref r, rfl, .str p.1, rfl, r, .ref p.2, rfl, .inl ⟨_, Sum.inr p.1, .inr ⟨od, s2 r _ (s1 r _ upd_same)⟩, rfl, (valV_wk ndW hm).symm⟩, ?_⟩
      refine ⟨sD L2, sD L2, sD_dp ht, sD_dp (s2 _ _ hL1), sD_shaped ok, sD_shaped ok, _, rfl, ?_⟩
      rw [sD_same]
      refine iteF ?_
      refine ⟨.ref t, rfl, .inl ⟨rfl, _, SqL.of ht⟩, t, _, rfl, rfl, ht, ?_⟩
      exact ⟨_, _, rfl, fun x o e => by
        have e2 := s1 x o e
        rw [upd_ne (ne_of_none e2 nt)]
        exact s2 x o e2⟩
    rintro σ H1 ⟨y2, y3, rfl, s1⟩
    refine ⟨s1 r _ upd_same, ?_⟩
    refine q _ fun x o e => ?_
    by_cases xr : x = r
    · rw [xr, upd_same, ← hR, ← xr, e]
    · rw [upd_ne xr]
      exact s1 x o (by rw [upd_ne xr]; exact e)
end
end Nl
end
section
set_option maxHeartbeats 4000000
namespace Nl
open PySem PySem.Spec PyProof.Rows L2 Nt
/-! ### things that are no texts: no ponds -/
def Odd (K : PySem.W.Frag) (H : Hp) (v : V) : Prop := ∃ t : Value, TyOf K H v t ∧ PySem.W.kitOne K t (.type "str") = some false
theorem Odd.non {K : PySem.W.Frag} {H : Hp} : Odd K H .non := ⟨_, .non, kit_ty (by decide +kernel)⟩
theorem Odd.int {K : PySem.W.Frag} {H : Hp} {i : Int} : Odd K H (.int i) := ⟨_, .int i, kit_ty (by decide +kernel)⟩
theorem Odd.tup {K : PySem.W.Frag} {H : Hp} {a : Addr} {xs : List V} (h : H a = some (.tup xs)) : Odd K H (.ref a) := ⟨_, .tup h, kit_ty (by decide +kernel)⟩
theorem Odd.bl {K : PySem.W.Frag} {H : Hp} {b : Bool} : Odd K H (.bl b) := ⟨_, .bl b, kit_ty (by decide +kernel)⟩
theorem Odd.lst {K : PySem.W.Frag} {H : Hp} {a : Addr} {xs : List V} (h : H a = some (.lst xs)) : Odd K H (.ref a) := ⟨_, .lst h, kit_ty (by decide +kernel)⟩
theorem Odd.dic {K : PySem.W.Frag} {H : Hp} {a : Addr} {kvs : List (Key × V)} (h : H a = some (.dK kvs)) : Odd K H (.ref a) := ⟨_, .dK h, kit_ty (by decide +kernel)⟩
theorem TyOf.sameX {K : PySem.W.Frag} {H H' : Hp} {v : V} {t : Value} (h : TyOf K H v t) (s : Same H H') : TyOf K H' v t := by
  cases h with
  | non => exact .non
  | bl x => exact .bl x
  | int i => exact .int i
  | str x => exact .str x
  | flt x => exact .flt x
  | lst e => exact .lst (s _ _ e)
  | frz e => exact .frz (s _ _ e)
  | tup e => exact .tup (s _ _ e)
  | dK e => exact .dK (s _ _ e)
  | dT e => exact .dT (s _ _ e)
  | ins e a b c d f => exact .ins (s _ _ e) a b c d f
theorem Odd.same {K : PySem.W.Frag} {H H' : Hp} {v : V} (h : Odd K H v) (s : Same H H') : Odd K H' v := by
  obtain ⟨t, a, b⟩ := h
  exact ⟨t, TyOf.sameX a s, b⟩
theorem Odd.noStr {K : PySem.W.Frag} {H : Hp} {v : V} (h : Odd K H v) {z : Str} (e : v = .str z) : False := by
  subst e
  obtain ⟨t, a, b⟩ := h
  cases a
  have c : PySem.W.kitOne K (.type "str") (.type "str") = some true := kit_ty (by decide +kernel)
  rw [c] at b
  cases b
/-- a text or none -/
def Thg (K : PySem.W.Frag) (H : Hp) (v : V) : Prop := (∃ z, v = .str z ∧ Sm 25 z) ∨ Odd K H v
theorem Thg.same {K : PySem.W.Frag} {H H' : Hp} {v : V} (h : Thg K H v) (s : Same H H') : Thg K H' v := h.imp id fun o => o.same s
section
variable {P : Program} {w : World} {K : PySem.W.Frag} {mg : Str → Option Value} {base : Heap} {CX : CXT} {k : Nat} {f : Addr} {fd : FuncData} {ps : List Str} {sp1 sp2 : Sp}
theorem fnok_or (F1 : FnOk P w K mg base CX k f fd ps sp1) (F2 : FnOk P w K mg base CX k f fd ps sp2) : FnOk P w K mg base CX k f fd ps (fun vs H Q E => sp1 vs H Q E ∨ sp2 vs H Q E) :=
  ⟨fun vs H Q E h => h.elim (F1.len vs H Q E) (F2.len vs H Q E), fun A outer s H args us vs Q E hr e0 hb r h => h.elim (F1.run A outer s H args us vs Q E hr e0 hb r) (F2.run A outer s H args us vs Q E hr e0 hb r)⟩
end
section
variable {P : Program} {w : World} {K : PySem.W.Frag} {mg : Str → Option Value} {base : Heap}
def spNameX (K : PySem.W.Frag) : Sp := fun vs H Q _ => ∃ v : V, vs = [v] ∧ Odd K H v ∧ ∀ H', Same H H' → Q (.bl false) H'
theorem ok_nameX {f : Addr} {fd : FuncData} {k : Nat} {tm tl : Tok} (F : Fun K "is_name" "is_name" sName f fd) (mi : mg "isinstance" = none) (ms : mg "str" = none) (ml : mg "len" = none) (ma : mg "all" = none)
    (gM : mg "MOST_LETTERS" = some (.int 8 tm)) (gL : mg "LETTERS" = some (.str abc tl)) : FnOk P w K mg base CX0 (k + 1) f fd ["thing"] (spNameX K) := by
  refine F.ok scName (fun vs H Q E h => ?_) (fun cdv A outer s H vs Q E hr h => ?_)
  · obtain ⟨z, rfl, _⟩ := h
    rfl
  · obtain ⟨v, rfl, ⟨t, ty, kt⟩, q⟩ := h
    refine ⟨_, pss_cons (ps_if (PW.pt (pw_or (pt_not (pt_val (pe_callB call_isi (by rfl) mi (by decide +kernel) (pa_cons (pv 0) (pa_cons (pe_bltn (v := .ty "str") (by rfl) ms (by decide +kernel) rfl) pa_nil)))))
        (pw_or1 (pt_not (pt_chain op_le op_le pe_int (pe_callB call_len_str (by rfl) ml PySem.boot_len (pa_cons (pv 0) pa_nil)) (pe_glob (v := .int 8) rfl gM ⟨_, rfl⟩)))))) (pss_one (ps_ret pe_bl)) pss_nil)
      (pss_one (ps_ret (pe_callB (cr_all rfl) (by rfl) ma (by decide +kernel) (pa_cons (pe_lc (own := [("letter", 1)]) (g := gName 1) (tt := tYes) rfl scName.nd (pi_str (pv 0))
        (blkOk_by (N := ["thing", "letter"]) (sc := defScope sName) (by decide +kernel)) (fun _ _ _ _ _ => pg_name (i := 1) scName.nd rfl (Or.inl rfl)) (fun _ _ _ _ _ => pts_nil)
        (fun _ _ _ _ _ => pe_cmpR op_in_sign (pv 1) (pe_glob (v := .str abc) rfl gL ⟨_, rfl⟩) (by rfl))) pa_nil)))), ?_⟩
    refine ⟨v, rfl, v, .ty "str", t, .type "str", false, rfl, .ty _, .base ty, kt, false, rfl, iteT ?_⟩
    exact q H (Same.refl _)
def spPondOfX (K : PySem.W.Frag) : Sp := fun vs H Q _ => ∃ (a : Addr) (v : V), vs = [.ref a, v] ∧ Odd K H v ∧ ∀ H', Same H H' → Q (.bl false) H'
theorem ok_pondOfX {f fN : Addr} {fd fdN : FuncData} (F : Fun K "is_pond_of" "is_pond_of" sPondOf f fd) (FN : Fun K "is_name" "is_name" sName fN fdN) (GN : FnOk P w K mg base CX0 1 fN fdN ["thing"] (spNameX K)) (bN : Binds K fdN ["thing"] []) (gN : mg "is_name" = some (.ref fN)) :
    FnOk P w K mg base CX0 2 f fd ["brims", "thing"] (spPondOfX K) := by
  refine F.ok scPondOf (fun vs H Q E h => ?_) (fun cdv A outer s H vs Q E hr h => ?_)
  · obtain ⟨a, v, rfl, _⟩ := h
    rfl
  · obtain ⟨a, v, rfl, od, q⟩ := h
    refine ⟨_, pss_one (ps_ret (pe_and (pe_call GN hr (by rfl) gN FN.kp bN .nil pass0 (pa_cons (pv 1) pa_nil)) (pe_one (pe_cmp (pc_din (hu_of hr) (pv 1) (pv 0)) rfl)))), ?_⟩
    exact ⟨v, rfl, v, rfl, od, fun H1 s1 => ⟨false, rfl, iteF (q H1 s1)⟩⟩
/-- has_pond of anything -/
def spHasT (K : PySem.W.Frag) (C : Addr) : Sp := fun vs H Q E => spHas C vs H Q E ∨ ∃ (n : Addr) (B : Br) (v : V), vs = [.ref n, v] ∧ NetRd C H n B ∧ Odd K H v ∧ ∀ H', Same H H' → Q (.bl false) H'
theorem ok_hasT {f C f1 : Addr} {fd fd1 : FuncData} (F : Fun K "has_pond" "Net.has_pond" mNet_has_pond f fd) (T : TxN K mg C) (G : FnOk P w K mg base CX0 3 f fd ["self", "thing"] (spHas C))
    (F1 : Fun K "is_pond_of" "is_pond_of" sPondOf f1 fd1) (G1 : FnOk P w K mg base CX0 2 f1 fd1 ["brims", "thing"] (spPondOfX K)) (b1 : Binds K fd1 ["brims", "thing"] []) (g1 : mg "is_pond_of" = some (.ref f1)) :
    FnOk P w K mg base CX0 3 f fd ["self", "thing"] (spHasT K C) := by
  refine fnok_or G (F.ok scHas (fun vs H Q E h => ?_) (fun cdv A outer s H vs Q E hr h => ?_))
  · obtain ⟨n, B, v, rfl, _⟩ := h
    rfl
  · obtain ⟨n, B, v, rfl, ⟨dx, d1, d2, hn, h1⟩, od, q⟩ := h
    refine ⟨_, pss_one (ps_ret (pe_call G1 hr (by rfl) g1 F1.kp b1 .nil pass0 (pa_cons (pe_fld (pv 0) rfl) (pa_cons (pv 1) pa_nil)))), ?_⟩
    exact ⟨.ref n, rfl, n, C, dx, _, _, rfl, hn, T.cl, T.nB, nf_b d1 d2, v, rfl, d1, v, rfl, od, q⟩
end
end Nl
end
section
set_option maxHeartbeats 4000000
namespace Rl
open PySem PySem.Spec PyProof.Rows L2
/-! ### promises where nothing is being shown: what repr of lists wants -/
/-- a def's promise, called where no repr is under way -/
structure FnG (P : Program) (w : World) (K : PySem.W.Frag) (mg : Str → Option Value) (base : Heap) (CX : CXT) (k : Nat) (f : Addr) (fd : FuncData) (ps : List Str) (sp : Sp) : Prop where
  len : ∀ vs H Q E, sp vs H Q E → vs.length = ps.length
  run : ∀ (A : Around) (outer : List Env) (s : Shared) (H : Hp) (args : Args) (us : List Value) (vs : List V) (Q : VK) (E : XK), A.guards = some [] → Room k A → Env0 P w K mg base A outer s H → BindsTo s fd args (ps.zip us) → Vals vs us → sp vs H Q E →
    codeAny (model P w) A (.call (.ref f) args) (CR CX outer P w H s Q E) s
section
variable {P : Program} {w : World} {K : PySem.W.Frag} {mg : Str → Option Value} {base : Heap} {CX : CXT} {k : Nat} {f : Addr} {fd : FuncData} {ps N : List Str} {sp : Sp}
theorem FnG.of (F : FnOk P w K mg base CX k f fd ps sp) : FnG P w K mg base CX k f fd ps sp := ⟨F.len, fun A outer s H args us vs Q E _ => F.run A outer s H args us vs Q E⟩
/-- a def by its body -/
theorem okG {x qual : Str} {st : Stmt} (F : Fun K x qual st f fd) (S : FnScope N ps (defScope st)) (len : ∀ vs H Q E, sp vs H Q E → vs.length = ps.length)
    (hbody : ∀ (cdv : Value) (A : Around) (outer : List Env) (s : Shared) (H : Hp) (vs : List V) (Q : VK) (E : XK), A.guards = some [] → Room k (A.deeper (envOfC qual (defScope st) s.heap.objs.size f cdv)) → sp vs H Q E →
      ∃ t, PSs (cxOf CX0 P w K mg base N qual (defScope st) f cdv A outer s H E).nox (defBody st) t ∧ t { nx := fun _ H' => Q .non H', rt := Q } (start N vs) H) : FnG P w K mg base CX0 (k + 1) f fd ps sp := by
  obtain ⟨oc, od, kV, doc, pm, an, cdv, ct, osl, rfl, lk, hcd⟩ := F.ex
  refine ⟨len, fun A outer s H args us vs Q E hg hr e0 hb r hsp => ?_⟩
  have KI : K.In s.heap := e0.mod.kin.keeps fun b o z => (e0.bs b o z).1
  have par : ∀ y ∈ ps.zip us, (defScope st).names.lookup y.1 = some .local ∨ ((defScope st).names.lookup y.1 = some .cell ∧ ((cellsFrom (s.heap.objs.size + 1) (defScope st).names []).lookup y.1).isSome = true) := fun ⟨n, v⟩ hy =>
    (S.par n (List.of_mem_zip hy).1).imp id fun q => ⟨q, PySem.W.cellsFrom_some _ _ _ (.inl q)⟩
  refine codeAny_call_function hr.depth (KI _ _ lk) rfl S.co S.gen rfl (PySem.W.codeRec_of KI hcd) (hb _ _ _ _ (wpAny_newFunctionEnv_cells S.kind par fun env he s1 z => ?_))
  subst he
  refine ⟨(e0.mod.nolimit.keeps fun b o z => (e0.bs b o z).1).keeps z.toInCall.keep, codeAny_func ?_⟩
  obtain ⟨t, ht, hq⟩ := hbody cdv A outer s H vs Q E hg (hr.deeper _) hsp
  have I : Inv (cxOf CX0 P w K mg base N qual (defScope st) f cdv A outer s H E) [] (start N vs) H s1 := inv_start S hr.hd e0 (len _ _ _ _ hsp) r z
  refine wpAny_mono (ht.nox.run [] s1 (start N vs) H _ I hq) (fun fl s' hs => ?_) fun e s' hs => hs
  cases fl with
  | ret u =>
    obtain ⟨v, σ', H', J, rv, q⟩ := hs
    exact ⟨v, H', J.os, J.bare, J.base, J.hok, rv, q⟩
  | next =>
    obtain ⟨σ', H', J, q⟩ := hs
    exact ⟨.non, H', J.os, J.bare, J.base, J.hok, rfl, q⟩
  | brk =>
    obtain ⟨_, _, _, z⟩ := hs
    exact False.elim z
  | cont =>
    obtain ⟨_, _, _, z⟩ := hs
    exact False.elim z
end
section
variable {X : Cx} {CX : CXT} {k : Nat} {f : Addr} {fd : FuncData} {ps : List Str} {sp : Sp} {dvs : List V} {ds : List Value} {E : XK} {x : Str} {p pos : Pos} {e : Expr} {es : List Expr} {t : TA}
/-- f(e, ..) -/
theorem pe_callG (F : FnG X.prog X.w X.K X.mg X.base CX k f fd ps sp) (hg : X.A.guards = some []) (hr : Room k X.A) (gl : Gl X x) (hm : X.mg x = some (.ref f)) (hk : PySem.W.keepIn X.K (.ref f) = true) (hb : Binds X.K fd ps ds) (hd : Vals dvs ds) (hx : Passes CX X E)
    (ha : PA X (e :: es) t) (hdb : (x == ("__debug__" : Str)) = false := by decide) (he : starEach (e :: es) X.env = (false, eval e X.env) :: starEach es X.env := by rfl) (hpl : (backTo pos (starEach es X.env)).any (·.1) = false := by rfl) :
    PE X (.Call (.Name x p) (e :: es) [] pos) (tCall sp dvs E t) := by
  refine ⟨fun pins s σ H Q I h => wpAny_Call_Name_kw (ld_glob I gl hm (PySem.W.callWith_K (h₀ := X.base) I.ok.mod.kin hk (thn (ha.run pos pins s σ H _ I h) fun us s1 ⟨vs, H1, J, r, q⟩ => ⟨J.kIn, ?_⟩) he hpl) hdb)⟩
  have r2 : Vals (vs ++ dvs) (us ++ ds) := r.append hd
  have hl : (us ++ ds).length = ps.length := r2.length.symm.trans (F.len _ _ _ _ q)
  refine wpAny_call (codeAny_mono (F.run X.A X.stack s1 H1 ⟨us, []⟩ (us ++ ds) (vs ++ dvs) Q E hg hr J.env0 (hb s1 us J.kIn hl) r2 q) fun o s' hq => ?_)
  cases o with
  | error er => exact hx pins σ H1 s1 er s' J hq
  | ok fl =>
    cases fl with
    | ret u => exact J.after hq
    | _ => exact False.elim hq
/-- repr of lists and tuples, of texts, numbers, .. -/
def rRepr (K : PySem.W.Frag) : List V → Hp → VK → Prop := fun xs H Q => ∃ (a : Addr) (d : PyData), xs = [.ref a] ∧ Dp K H (.ref a) d ∧ d.showable = true ∧ d.hasDict = false ∧ d.depth ≤ 60 ∧ d.shown.length ≤ sizeLine ∧ Q (.str d.shown) H
theorem call_reprG (hg : X.A.guards = some []) (hu : X.A.units + 64 < cLine) : CallR X (.builtin "repr") (rRepr X.K) := by
  intro pins s σ H xs us Q I r h
  obtain ⟨a, d, rfl, hd, hs, nd, dp, hz, q⟩ := h
  cases r with
  | cons r1 rn =>
    cases rn
    cases r1
    obtain ⟨as, rd⟩ := Dp.reads I d _ _ hd rfl
    exact repr_of_reads' rd hs (fun z => by rw [nd] at z; cases z) hg (by omega) (fun _ _ z => z) (fun h' u tk kk => ⟨.str d.shown, H, I.kept kk, ⟨_, rfl⟩, q⟩) hz
end
/-- the law, called -/
theorem law_callG {P : Program} {w : World} {K : PySem.W.Frag} {mg mb : Str → Option Value} {CX : CXT} {k : Nat} {fa a : Addr} {fd : FuncData} {x : Str} {sp : Sp} {s₁ : Shared} {vs : List Value} {ns : List Int}
    (KX : K.In s₁.heap) (hns : s₁.heap.Ns mainGlobals mg) (hb : s₁.heap.Ns builtinsNs mb) (hbb : ∀ y : Str, y ≠ "__name__" → mb y = bootBuiltins y) (hlim : s₁.heap.NoLimit) (hgen : s₁.gens = #[])
    (ha : s₁.heap.get? a = some { cls := .type "list", data := .seq vs.toArray }) (hi : IntsAre vs ns) (hl : ns.length ≤ sizeLine) (hr : Room k callerA)
    (F : ∀ base : Heap, K.In base → base.Ns mainGlobals mg → FnG P w K mg base CX k fa fd [x] sp) (hbind : ∀ (s : Shared) (u : Value), BindsTo s fd ⟨[u], []⟩ [(x, u)])
    (hsp : ∀ H : Hp, Only H → SqL K H a (ns.map V.int) → sp [.ref a] H (fun v _ => v = .bl true) fun _ _ _ => False) (hCX : ∀ H e s', CX [] H s₁ (fun _ _ _ => False) e s' → False) :
    codeAny (model P w) callerA (.call (.ref fa) ⟨[.ref a], []⟩) (fun r s' => r = .ok (.ret (.bool true)) ∧ OldK s₁.heap s'.heap ∧ s'.os = s₁.os ∧ AllBare s'.gens) s₁ := by
  have rv := vals_ints hi
  have core : ∀ H : Hp, Only H → SqL K H a (ns.map V.int) → HOk P w H s₁.heap → (∀ b, H b ≠ none → b = a ∧ K.lookup a = none) →
      codeAny (model P w) callerA (.call (.ref fa) ⟨[.ref a], []⟩) (fun r s' => r = .ok (.ret (.bool true)) ∧ OldK s₁.heap s'.heap ∧ s'.os = s₁.os ∧ AllBare s'.gens) s₁ := fun H hO hS hok only => by
    have noD : ∀ {b : Addr} {o : Obj} {es : Array DictEntry} {ep : Nat}, s₁.heap.get? b = some o → o.data = .dict es ep → H b = none := fun {b o es ep} z d => by
      cases q : H b with
      | none => rfl
      | some u =>
        have eb := (only b (by rw [q]; simp)).1
        rw [eb, ha] at z
        cases z
        have d' : Data.seq vs.toArray _ = Data.dict es ep := d
        cases d'
    have nsK : ∀ {b : Addr} {m : Str → Option Value}, s₁.heap.Ns b m → (hidT s₁.heap H).Ns b m := fun {b m} ⟨o, es, ep, z, d, r⟩ => ⟨o, es, ep, hidT_get z (noD z d), d, r⟩
    have kb : K.In (hidT s₁.heap H) := fun b o z => hidT_get (KX b o z) (by
      cases q : H b with
      | none => rfl
      | some u =>
        obtain ⟨eb, nk⟩ := only b (by rw [q]; simp)
        rw [eb, nk] at z
        cases z)
    have e0 : Env0 P w K mg (hidT s₁.heap H) callerA [] s₁ H := ⟨rfl, ⟨kb, nsK hns, ⟨mb, nsK hb, hbb⟩, let ⟨mc, h1, h2⟩ := hlim; ⟨mc, nsK h1, h2⟩⟩, fun b o z => of_hidT z, Nat.le_of_eq (hidT_size _ _), trivial, fun b z => absurd (show b ∈ ([] : List Addr) from z) (by simp), hok, .of_eq hgen⟩
    refine codeAny_mono ((F _ kb (nsK hns)).run callerA [] s₁ H ⟨[.ref a], []⟩ [.ref a] [.ref a] _ _ rfl hr e0 (hbind s₁ (.ref a)) (.cons rfl .nil) (hsp H hO hS)) fun r s' h => ?_
    cases r with
    | error e => exact (hCX H e s' h).elim
    | ok fl =>
      cases fl with
      | ret u =>
        obtain ⟨v, H', os, bare, un, hok', r', q⟩ := h
        cases (show v = .bl true from q)
        cases (show u = Value.bool true from r')
        refine ⟨rfl, OldK.of_keep fun b o z => ?_, os, bare⟩
        cases q : H b with
        | none => exact un.keep b o z q (fun y => absurd (show b ∈ ([] : List Addr) from y) (by simp)) (by simp)
        | some u =>
          rcases hO b with y | ⟨ob, xs, y⟩
          · rw [q] at y; cases y
          · obtain ⟨h1, _⟩ := hok b _ y
            obtain ⟨h2, _⟩ := hok' b _ (un.frzs b ob _ y)
            rw [z] at h1
            cases h1
            exact h2
      | _ => exact False.elim h
  cases hk : K.lookup a with
  | some o =>
    have z := KX a o hk
    rw [ha] at z
    cases z
    exact core (fun _ => none) (fun _ => .inl rfl) (.inr ⟨_, vs.toArray, _, hk, rfl, rfl, rfl, by rw [List.size_toArray, hi.length]; exact hl, by simpa using rv⟩) (fun b u z => nomatch (show (none : Option HO) = some u from z)) fun b z => absurd rfl z
  | none =>
    refine core (fun b => if b = a then some (.frz { cls := .type "list", data := .seq vs.toArray } (.lst (ns.map V.int))) else none) (fun b => ?_) (.inl (.inr ⟨{ cls := .type "list", data := .seq vs.toArray }, if_pos rfl⟩)) (fun b u z => ?_) fun b z => ?_
    · by_cases h : b = a
      · exact .inr ⟨_, _, if_pos h⟩
      · exact .inl (if_neg h)
    · by_cases h : b = a
      · have z' := (if_pos h).symm.trans z
        cases z'
        subst h
        exact ⟨ha, by rw [List.length_map]; exact hl, vs, _, rv, ha⟩
      · cases (if_neg h).symm.trans z
    · by_cases h : b = a
      · exact ⟨h, hk⟩
      · exact absurd (if_neg h) z
theorem walk_ofG {l : PySem.W.OpenLaw} {n k : Nat} {q : Program} {loose : List Str} {XP : (Str → Option Value) → Heap → Prop} {YP : World → Heap → Prop} {d : DefRec} {CX : CXT} {x : Str}
    (hn : l.most = some n) (hn2 : n ≤ sizeLine) (hdf : d.params.defaults = []) (hr : Room k callerA)
    (F : ∀ (w : World) (mg : Str → Option Value) (fa : Addr) (h : Heap), YP w h → h.Ns mainGlobals mg → mg d.name = some (.ref fa) →
      ∃ (K : PySem.W.Frag) (fd : FuncData) (sp : Sp), K.In h ∧ (∀ (s : Shared) (u : Value), BindsTo s fd ⟨[u], []⟩ [(x, u)]) ∧
        (∀ (H : Hp) (a : Addr) (ns : List Int), ns.length ≤ n → Only H → SqL K H a (ns.map V.int) → sp [.ref a] H (fun v _ => v = .bl true) fun _ _ _ => False) ∧
        ∀ base : Heap, K.In base → base.Ns mainGlobals mg → FnG l.prog w K mg base CX k fa fd [x] sp)
    (hCX : ∀ (H : Hp) (s : Shared) (e : Value) (s' : Shared), CX [] H s (fun _ _ _ => False) e s' → False) : PySem.W.WalkO q loose XP YP l.row.toRowW d [] (fun f vs => PySem.call f vs) :=
  Att.attach_call hn hdf fun w s₀ s₁ mg mb fa o pm cd doc a vs ns G Y ho hd hcd hmg hobj hints hlen hg => by
    obtain ⟨K, fd, sp, KX, hb, hsp, hF⟩ := F w mg fa _ Y G.T.g hmg
    exact law_callG KX G.T.g G.T.b G.T.builtins G.T.nolimit hg hobj hints (Nat.le_trans hlen hn2) hr hF hb (fun H hO hS => hsp H a ns hlen hO hS) fun H e s' => hCX H s₁ e s'
end Rl
end
section
set_option maxHeartbeats 4000000
/-! repr, and {..!r}, of dicts of ints by names or by pairs of names -/
namespace Rl
open PySem PySem.Spec PyProof.Rows L2 Nl Nt
def dN (B : Br) : PyData := .dict (B.map fun x => (.str x.1, .int x.2))
def dP (Pp : Pi) : PyData := .dict (Pp.map fun p => (.tuple [.str p.1.1, .str p.1.2], .int p.2))
section
variable {X : Cx} {pins : List (Addr × Obj)} {σ : List (Option V)} {H : Hp} {s : Shared} {a : Addr}
theorem readsAll_strs2 {h : Heap} {l : List Value} {x y : Str} {as : List Addr} (r : ReadsAll h l [.str x, .str y] as) : as = [] := by
  cases r with
  | cons r1 r2 =>
    cases r1
    cases r2 with
    | cons r3 r4 =>
      cases r3
      cases r4
      rfl
theorem reads_strs2 {h : Heap} {q : Addr} {x y : Str} {as : List Addr} (r : Reads h (.ref q) (.tuple [.str x, .str y]) as) : as = [] := by
  cases r with
  | tuple h1 h2 h3 h4 => exact readsAll_strs2 h4
theorem keys_bkR {h : Heap} {P : Program} {w : World} : ∀ {B : Br} {es : List DictEntry} {vs : List (Key × Value)}, KV (bk B) vs → Pairs (mixKind P w) es vs → ReadsAll h (es.map (·.key)) (B.map fun x => PyData.str x.1) [] ∧ ReadsAll h (es.map (·.val)) (B.map fun x => PyData.int x.2) []
  | [], es, vs, k, p => by
    cases k
    cases p
    exact ⟨.nil, .nil⟩
  | x :: B, es, vs, k, p => by
    cases k with
    | cons k1 k2 =>
      cases p with
      | cons p1 p2 p3 =>
        obtain ⟨h1, h2⟩ := keys_bkR (h := h) k2 p3
        obtain ⟨e1, e2⟩ := k1
        have e1' := e1
        rw [← e1] at p1
        rcases keyIs_shape (show keyIs (Sum.inr x.1) _ = true from p1) with ⟨i, t, q1, q2⟩ | ⟨z, t, q1, q2⟩
        · cases q1
        · cases q1
          obtain ⟨t2, q3⟩ := e2
          rw [← p2] at q3
          constructor
          · show ReadsAll h (_ :: _) (_ :: _) _
            dsimp only
            rw [q2]
            exact ReadsAll.cons (as := []) (bs := []) (.str _ _) h1
          · show ReadsAll h (_ :: _) (_ :: _) _
            dsimp only
            rw [q3]
            exact ReadsAll.cons (as := []) (bs := []) (.int _ _) h2
theorem reads_dN {B : Br} (I : Inv X pins σ H s) (ha : H a = some (.dK (bk B))) : ∃ as, Reads s.heap (.ref a) (dN B) as ∧ sysModules ∉ as := by
  obtain ⟨_, lo, vs, kv, o, es, ep, h1, h2, h3, h4, h5, h6⟩ := I.hok a _ ha
  obtain ⟨r1, r2⟩ := keys_bkR (h := s.heap) kv h5
  have r1' : ReadsAll s.heap (es.toList.map (·.key)) ((B.map fun x => (PyData.str x.1, PyData.int x.2)).map (·.1)) [] := by rw [List.map_map]; exact r1
  have r2' : ReadsAll s.heap (es.toList.map (·.val)) ((B.map fun x => (PyData.str x.1, PyData.int x.2)).map (·.2)) [] := by rw [List.map_map]; exact r2
  refine ⟨_, .dict h1 h2.1 h3 r1' r2', fun hm => ?_⟩
  have : sysModules = a := by simpa using hm
  rw [this] at lo
  simp at lo
theorem keys_ptR (I : Inv X pins σ H s) : ∀ {Pp : Pi} {xs : List (List Key × Addr × Value)}, Paired (fun (p : List Key × V) (q : List Key × Addr × Value) => p.1 = q.1 ∧ H q.2.1 = some (.tup (p.1.map kV)) ∧ L2.RelV p.2 q.2.2) (pt Pp) xs →
    ReadsAll s.heap (xs.map fun q => Value.ref q.2.1) (Pp.map fun p => PyData.tuple [.str p.1.1, .str p.1.2]) [] ∧ ReadsAll s.heap (xs.map fun q => q.2.2) (Pp.map fun p => PyData.int p.2) []
  | [], xs, k => by
    cases k
    exact ⟨.nil, .nil⟩
  | p :: Pp, xs, k => by
    cases k with
    | @cons _ q _ _ k1 k2 =>
      obtain ⟨h1, h2⟩ := keys_ptR I k2
      obtain ⟨e1, e2, e3⟩ := k1
      have e2' : H q.2.1 = some (.tup [.str p.1.1, .str p.1.2]) := e2
      obtain ⟨as, rd⟩ := Dp.reads I (.tuple [.str p.1.1, .str p.1.2]) (.ref q.2.1) (.ref q.2.1) (Dp.tup (SqT.of e2') (.cons (.str _) (.cons (.str _) .nil))) rfl
      have ea := reads_strs2 rd
      subst ea
      obtain ⟨t2, q3⟩ := e3
      constructor
      · show ReadsAll s.heap (_ :: _) (_ :: _) _
        exact ReadsAll.cons (as := []) (bs := []) rd h1
      · show ReadsAll s.heap (_ :: _) (_ :: _) _
        dsimp only
        rw [q3]
        exact ReadsAll.cons (as := []) (bs := []) (.int _ _) h2
theorem reads_dP {Pp : Pi} (I : Inv X pins σ H s) (ha : H a = some (.dT (pt Pp))) : ∃ as, Reads s.heap (.ref a) (dP Pp) as ∧ sysModules ∉ as := by
  obtain ⟨_, lo, xs, kv, o, es, ep, h1, h2, h3, h4, h5⟩ := I.hok a _ ha
  obtain ⟨r1, r2⟩ := keys_ptR I kv
  have r1' : ReadsAll s.heap (es.toList.map (·.key)) ((Pp.map fun p => (PyData.tuple [.str p.1.1, .str p.1.2], PyData.int p.2)).map (·.1)) [] := by rw [h4, List.map_map, List.map_map]; exact r1
  have r2' : ReadsAll s.heap (es.toList.map (·.val)) ((Pp.map fun p => (PyData.tuple [.str p.1.1, .str p.1.2], PyData.int p.2)).map (·.2)) [] := by rw [h4, List.map_map, List.map_map]; exact r2
  refine ⟨_, .dict h1 h2.1 h3 r1' r2', fun hm => ?_⟩
  have : sysModules = a := by simpa using hm
  rw [this] at lo
  simp at lo
/-- a dict of ints by names or pairs, as a text -/
def DcR (H : Hp) (a : Addr) (d : PyData) : Prop := (∃ B, H a = some (.dK (bk B)) ∧ d = dN B) ∨ ∃ Pp, H a = some (.dT (pt Pp)) ∧ d = dP Pp
theorem DcR.reads {d : PyData} (I : Inv X pins σ H s) (h : DcR H a d) : ∃ as, Reads s.heap (.ref a) d as ∧ sysModules ∉ as := by
  rcases h with ⟨B, h, rfl⟩ | ⟨Pp, h, rfl⟩
  · exact reads_dN I h
  · exact reads_dP I h
/-- {x!r} of such a dict -/
def tFmtRD (te : TE) : TE := fun σ H Q => te σ H fun x H1 => ∃ a d, x = .ref a ∧ DcR H1 a d ∧ d.showable = true ∧ d.depth ≤ 60 ∧ d.shown.length ≤ sizeLine ∧ Q (.str d.shown) H1
theorem pe_fmtRD {e : Expr} {te : TE} {pos : Pos} (hg : X.A.guards = some []) (hu : X.A.units + 64 < cLine) (he : PE X e te) : PE X (.FormattedValue e 114 none pos) (tFmtRD te) := by
  refine ⟨fun pins s σ H Q I h => ?_⟩
  refine wpAny_FormattedValue_repr (thn (he.run pins s σ H _ I h) fun v s1 hv => ?_)
  obtain ⟨x, H1, I1, r1, b, d, rfl, hd, hs, dp, hz, q⟩ := hv
  cases r1
  obtain ⟨as, rd, nm⟩ := hd.reads I1
  exact pyReprObj_of_reads rd hs (fun _ => nm) hg (by omega) (fun _ _ z => z) (fun h' u tk kk => wpAny_formatField_str ⟨.str d.shown, H1, I1.kept kk, ⟨_, rfl⟩, q⟩ ⟨.str d.shown, H1, (I1.kept kk).tok _, ⟨_, rfl⟩, q⟩ hz) hz
/-- repr of such a dict -/
def rReprD : List V → Hp → VK → Prop := fun xs H Q => ∃ (a : Addr) (d : PyData), xs = [.ref a] ∧ DcR H a d ∧ d.showable = true ∧ d.depth ≤ 60 ∧ d.shown.length ≤ sizeLine ∧ Q (.str d.shown) H
theorem call_reprD (hg : X.A.guards = some []) (hu : X.A.units + 64 < cLine) : CallR X (.builtin "repr") rReprD := by
  intro pins s σ H xs us Q I r h
  obtain ⟨a, d, rfl, hd, hs, dp, hz, q⟩ := h
  cases r with
  | cons r1 rn =>
    cases rn
    cases r1
    obtain ⟨as, rd, nm⟩ := hd.reads I
    exact repr_of_reads' rd hs (fun _ => nm) hg (by omega) (fun _ _ z => z) (fun h' u tk kk => ⟨.str d.shown, H, I.kept kk, ⟨_, rfl⟩, q⟩) hz
end
end Rl
end
section
set_option maxHeartbeats 4000000
/-! repr of a list of scalars, lists of texts and dicts of ints by names -/
namespace Rl
open PySem PySem.Spec PyProof.Rows L2 Nl Nt
/-- the table of the modules is among what the head left -/
def SysK (K : PySem.W.Frag) : Prop := (List.lookup sysModules K).isSome = true
inductive Itm (H : Hp) : V → PyData → Prop
  | non : Itm H .non .none
  | int (i : Int) : Itm H (.int i) (.int i)
  | str (z : Str) : Itm H (.str z) (.str z)
  | lst {a : Addr} {L : List Str} : H a = some (.lst (L.map V.str)) → Itm H (.ref a) (.list (L.map PyData.str))
  | dic {a : Addr} {B : Br} : H a = some (.dK (bk B)) → Itm H (.ref a) (dN B)
section
variable {X : Cx} {pins : List (Addr × Obj)} {σ : List (Option V)} {H : Hp} {s : Shared} {a : Addr}
theorem sys_none (I : Inv X pins σ H s) (hx : X.ex = []) (k : SysK X.K) : H sysModules = none := by
  obtain ⟨o', h2⟩ := Option.isSome_iff_exists.mp k
  obtain ⟨b1, b2⟩ := I.ok.bs _ _ (I.ok.mod.kin _ _ h2)
  exact I.base.free _ _ b1 b2 (by rw [hx]; simp)
theorem readsAll_strsV {h : Heap} : ∀ {L : List Str} {its : List Value}, Vals (L.map V.str) its → ReadsAll h its (L.map PyData.str) []
  | [], [], _ => .nil
  | z :: L, u :: its, h' => by
    cases h' with
    | cons r t =>
      obtain ⟨tk, rfl⟩ := r
      exact ReadsAll.cons (as := []) (bs := []) (.str _ _) (readsAll_strsV t)
  | [], _ :: _, h' => by cases h'
  | _ :: _, [], h' => by cases h'
theorem Itm.reads (I : Inv X pins σ H s) (n : H sysModules = none) {v : V} {u : Value} {d : PyData} (h : Itm H v d) (r : L2.RelV v u) : ∃ as, Reads s.heap u d as ∧ sysModules ∉ as := by
  cases h with
  | non => cases r; exact ⟨_, .none, by simp⟩
  | int i => obtain ⟨tk, rfl⟩ := r; exact ⟨_, .int _ _, by simp⟩
  | str z => obtain ⟨tk, rfl⟩ := r; exact ⟨_, .str _ _, by simp⟩
  | @lst a L ha =>
    cases r
    obtain ⟨its, rv, ⟨o, m, ho, hc, hd, hdt⟩, hlen⟩ := I.list (SqL.of (K := X.K) ha)
    refine ⟨_, .list ho hc hdt (by simpa using readsAll_strsV rv), fun hm => ?_⟩
    have e : sysModules = a := by simpa using hm
    rw [e, ha] at n; cases n
  | @dic a B ha =>
    cases r
    exact reads_dN I ha
theorem itms_reads (I : Inv X pins σ H s) (n : H sysModules = none) : ∀ {xs : List V} {ds : List PyData} {its : List Value}, Paired (Itm H) xs ds → Vals xs its → ∃ as, ReadsAll s.heap its ds as ∧ sysModules ∉ as
  | [], [], [], _, _ => ⟨[], .nil, by simp⟩
  | x :: xs, ds, u :: its, k, r => by
    cases k with
    | cons k1 k2 =>
      cases r with
      | cons r1 r2 =>
        obtain ⟨as, h1, h2⟩ := k1.reads I n r1
        obtain ⟨bs, h3, h4⟩ := itms_reads I n k2 r2
        exact ⟨as ++ bs, .cons h1 h3, by simp [h2, h4]⟩
  | [], _ :: _, _, k, _ => by cases k
  | [], [], _ :: _, _, r => by cases r
  | _ :: _, _, [], _, r => by cases r
/-- repr of such a list -/
def rReprM : List V → Hp → VK → Prop := fun xs H Q => ∃ (a : Addr) (vs : List V) (ds : List PyData), xs = [.ref a] ∧ H a = some (.lst vs) ∧ Paired (Itm H) vs ds ∧ (PyData.list ds).showable = true ∧ (PyData.list ds).depth ≤ 60 ∧ (PyData.list ds).shown.length ≤ sizeLine ∧ Q (.str (PyData.list ds).shown) H
theorem call_reprM (hx : X.ex = []) (k : SysK X.K) (hg : X.A.guards = some []) (hu : X.A.units + 64 < cLine) : CallR X (.builtin "repr") rReprM := by
  intro pins s σ H xs us Q I r h
  obtain ⟨a, vs, ds, rfl, ha, hd, hs, dp, hz, q⟩ := h
  cases r with
  | cons r1 rn =>
    cases rn
    cases r1
    have n := sys_none I hx k
    obtain ⟨its, rv, ⟨o, m, ho, hc, hd', hdt⟩, hlen⟩ := I.list (SqL.of (K := X.K) ha)
    obtain ⟨as, rd, nm⟩ := itms_reads I n hd rv
    have rdl : Reads s.heap (.ref a) (.list ds) (a :: as) := .list ho hc hdt (by simpa using rd)
    have nm2 : sysModules ∉ a :: as := fun hm => by
      rcases List.mem_cons.mp hm with e | hm
      · rw [e, ha] at n; cases n
      · exact nm hm
    exact repr_of_reads' rdl hs (fun _ => nm2) hg (by omega) (fun _ _ z => z) (fun h' u tk kk => ⟨.str (PyData.list ds).shown, H, I.kept kk, ⟨_, rfl⟩, q⟩) hz
end
end Rl
end
section
set_option maxHeartbeats 2000000
namespace Rl
open PySem PySem.Spec PyProof.Rows L2 Nl
/-! ### small data, as repr shows them -/
structure Sml (d : PyData) (k m : Nat) : Prop where
  sh : d.showable = true
  nd : d.hasDict = false
  dp : d.depth ≤ k
  lf : d.leavesShort 2000 = true
  wt : d.weight ≤ m
structure SmlA (ds : List PyData) (k m : Nat) : Prop where
  sh : PyData.showableAll ds = true
  nd : PyData.hasDictAll ds = false
  dp : PyData.depthAll ds ≤ k
  lf : PyData.leavesShortAll 2000 ds = true
  wt : PyData.weightAll ds ≤ m
theorem Sml.str {x : Str} (h : Sm 8 x) : Sml (.str x) 0 8 := ⟨rfl, rfl, Nat.le_refl _, by
  show (x.cps.toList.all fun c => decide (c < 16 ^ 8)) = true
  exact List.all_eq_true.mpr fun c hc => decide_eq_true (Nat.lt_of_lt_of_le (h.2 c hc) (by decide)), h.1⟩
theorem Sml.int {i : Int} (h : i.natAbs.log2 < 200) : Sml (.int i) 0 200 := ⟨decide_eq_true (by omega), rfl, Nat.le_refl _, by
  have := int_text_length_le (k := 200) (by decide) h
  show decide ((Str.ofString (toString i)).length ≤ 2000) = true
  rw [PySem.ofString_length]
  exact decide_eq_true (by omega), by
  show (if i == 0 then 0 else i.natAbs.log2 + 1) ≤ 200
  split <;> omega⟩
theorem SmlA.nil : SmlA [] 0 0 := ⟨rfl, rfl, Nat.le_refl _, rfl, Nat.le_refl _⟩
theorem SmlA.cons {d : PyData} {ds : List PyData} {k m j n : Nat} (h : Sml d k m) (r : SmlA ds j n) : SmlA (d :: ds) (max k j) (m + 1 + n) :=
  ⟨by show (d.showable && PyData.showableAll ds) = true; rw [h.sh, r.sh]; rfl, by show (d.hasDict || PyData.hasDictAll ds) = false; rw [h.nd, r.nd]; rfl,
    by show max d.depth (PyData.depthAll ds) ≤ _; have := h.dp; have := r.dp; omega, by show (d.leavesShort 2000 && PyData.leavesShortAll 2000 ds) = true; rw [h.lf, r.lf]; rfl,
    by show d.weight + 1 + PyData.weightAll ds ≤ _; have := h.wt; have := r.wt; omega⟩
theorem Sml.list {ds : List PyData} {k m : Nat} (h : SmlA ds k m) : Sml (.list ds) (k + 1) m := ⟨h.sh, h.nd, Nat.succ_le_succ h.dp, h.lf, h.wt⟩
theorem Sml.tuple {ds : List PyData} {k m : Nat} (h : SmlA ds k m) : Sml (.tuple ds) (k + 1) m := ⟨h.sh, h.nd, Nat.succ_le_succ h.dp, h.lf, h.wt⟩
theorem Sml.mono {d : PyData} {k m j n : Nat} (h : Sml d k m) (a : k ≤ j) (b : m ≤ n) : Sml d j n := ⟨h.sh, h.nd, Nat.le_trans h.dp a, h.lf, Nat.le_trans h.wt b⟩
theorem SmlA.of {k m : Nat} : ∀ {ds : List PyData}, (∀ d ∈ ds, Sml d k m) → SmlA ds k ((m + 1) * ds.length)
  | [], _ => ⟨rfl, rfl, Nat.zero_le _, rfl, Nat.zero_le _⟩
  | d :: ds, h => by
    have q := SmlA.cons (h d List.mem_cons_self) (SmlA.of fun e he => h e (List.mem_cons_of_mem _ he))
    refine ⟨q.sh, q.nd, Nat.le_trans q.dp (by omega), q.lf, Nat.le_trans q.wt ?_⟩
    rw [List.length_cons, Nat.mul_add]
    omega
theorem Sml.strs {l : List Str} (h : ∀ z ∈ l, Sm 8 z) : Sml (.list (l.map PyData.str)) 1 (9 * l.length) := by
  have q := SmlA.of (k := 0) (m := 8) (ds := l.map PyData.str) fun d hd => by
    obtain ⟨z, hz, rfl⟩ := List.mem_map.mp hd
    exact Sml.str (h z hz)
  rw [List.length_map] at q
  exact Sml.list q
theorem Sml.fits {d : PyData} {k m : Nat} (h : Sml d k m) (a : k ≤ 60) (b : m ≤ 8000) : d.showable = true ∧ d.hasDict = false ∧ d.depth ≤ 60 ∧ d.shown.length ≤ sizeLine := by
  refine ⟨h.sh, h.nd, Nat.le_trans h.dp a, Nat.le_trans (PyData.shown_le 2000 (by decide) d h.lf) ?_⟩
  rw [sizeLine_eq]
  have := Nat.mul_le_mul_left 2002 (Nat.le_trans h.wt b)
  omega
end Rl
end
section
set_option maxHeartbeats 4000000
/-! data of any kind: repr and str of them -/
namespace Rl
open PySem PySem.Spec PyProof.Rows L2 Nl Nt
mutual
inductive Dx (H : Hp) : V → PyData → Prop
  | non : Dx H .non .none
  | bl (b : Bool) : Dx H (.bl b) (.bool b)
  | int (i : Int) : Dx H (.int i) (.int i)
  | str (x : Str) : Dx H (.str x) (.str x)
  | lst {a : Addr} {xs : List V} {ds : List PyData} : H a = some (.lst xs) → DxAll H xs ds → Dx H (.ref a) (.list ds)
  | tup {a : Addr} {xs : List V} {ds : List PyData} : H a = some (.tup xs) → DxAll H xs ds → Dx H (.ref a) (.tuple ds)
  | dic {a : Addr} : H a = some (.dK []) → Dx H (.ref a) (.dict [])
inductive DxAll (H : Hp) : List V → List PyData → Prop
  | nil : DxAll H [] []
  | cons {v : V} {vs : List V} {d : PyData} {ds : List PyData} : Dx H v d → DxAll H vs ds → DxAll H (v :: vs) (d :: ds)
end
mutual
theorem Dx.same {H H' : Hp} (sm : Same H H') : ∀ (d : PyData) (v : V), Dx H v d → Dx H' v d
  | .none, _, h => by cases h; exact .non
  | .bool b, _, h => by cases h; exact .bl b
  | .int i, _, h => by cases h; exact .int i
  | .str x, _, h => by cases h; exact .str x
  | .list ds, _, h => by
    cases h with
    | lst a b => exact .lst (sm _ _ a) (DxAll.same sm ds _ b)
  | .tuple ds, _, h => by
    cases h with
    | tup a b => exact .tup (sm _ _ a) (DxAll.same sm ds _ b)
  | .dict kvs, _, h => by
    cases h with
    | dic a => exact .dic (sm _ _ a)
theorem DxAll.same {H H' : Hp} (sm : Same H H') : ∀ (ds : List PyData) (vs : List V), DxAll H vs ds → DxAll H' vs ds
  | [], _, h => by cases h; exact .nil
  | d :: ds, _, h => by
    cases h with
    | cons a b => exact .cons (Dx.same sm d _ a) (DxAll.same sm ds _ b)
end
theorem dxAll_strs {H : Hp} : ∀ l : List Str, DxAll H (l.map V.str) (l.map PyData.str)
  | [] => .nil
  | z :: l => .cons (.str z) (dxAll_strs l)
theorem dxAll_of {H : Hp} {p : PyData → Prop} : ∀ {xs : List V}, (∀ v ∈ xs, ∃ d, Dx H v d ∧ p d) → ∃ ds, DxAll H xs ds ∧ ds.length = xs.length ∧ ∀ d ∈ ds, p d
  | [], _ => ⟨[], .nil, rfl, fun d hd => absurd hd List.not_mem_nil⟩
  | v :: xs, h => by
    obtain ⟨d, h1, h2⟩ := h v List.mem_cons_self
    obtain ⟨ds, h3, h4, h5⟩ := dxAll_of (xs := xs) fun u hu => h u (List.mem_cons_of_mem _ hu)
    refine ⟨d :: ds, .cons h1 h3, by rw [List.length_cons, List.length_cons, h4], fun e he => ?_⟩
    rcases List.mem_cons.mp he with rfl | he
    · exact h2
    · exact h5 e he
section
variable {X : Cx} {pins : List (Addr × Obj)} {σ : List (Option V)} {H : Hp} {s : Shared}
mutual
theorem Dx.reads (I : Inv X pins σ H s) (n : H sysModules = none) : ∀ (d : PyData) (v : V) (u : Value), Dx H v d → L2.RelV v u → ∃ as, Reads s.heap u d as ∧ sysModules ∉ as
  | .none, _, _, h, r => by
    cases h
    cases r
    exact ⟨_, Reads.none, by simp⟩
  | .bool b, _, _, h, r => by
    cases h
    cases r
    exact ⟨_, Reads.bool b, by simp⟩
  | .int i, _, _, h, r => by
    cases h
    obtain ⟨t, rfl⟩ := r
    exact ⟨_, Reads.int i t, by simp⟩
  | .str x, _, _, h, r => by
    cases h
    obtain ⟨t, rfl⟩ := r
    exact ⟨_, Reads.str x t, by simp⟩
  | .list ds, _, _, h, r => by
    cases h with
    | @lst a xs _ hs ha =>
      cases r
      obtain ⟨its, rv, ⟨o, m, ho, hc, _, hd⟩, _⟩ := I.list (SqL.of (K := X.K) hs)
      obtain ⟨as, hr, nm⟩ := Dx.readsAll I n ds _ its ha rv
      refine ⟨_, Reads.list ho hc hd hr, fun hm => ?_⟩
      rcases List.mem_cons.mp hm with e | hm
      · rw [e, hs] at n; cases n
      · exact nm hm
  | .tuple ds, _, _, h, r => by
    cases h with
    | tup hs ha =>
      cases r
      obtain ⟨its, rv, ⟨o, ho, hc, m, hd⟩, _⟩ := I.tuple (SqT.of (K := X.K) hs)
      obtain ⟨as, hr, nm⟩ := Dx.readsAll I n ds _ its ha rv
      exact ⟨_, Reads.tuple ho hc hd hr, nm⟩
  | .dict _, _, _, h, r => by
    cases h with
    | dic ha =>
      cases r
      exact reads_dN (B := []) I ha
theorem Dx.readsAll (I : Inv X pins σ H s) (n : H sysModules = none) : ∀ (ds : List PyData) (vs : List V) (us : List Value), DxAll H vs ds → Vals vs us → ∃ as, ReadsAll s.heap us ds as ∧ sysModules ∉ as
  | [], _, _, h, r => by
    cases h
    cases r
    exact ⟨_, ReadsAll.nil, by simp⟩
  | d :: ds, _, _, h, r => by
    cases h with
    | cons h1 h2 =>
      cases r with
      | cons r1 r2 =>
        obtain ⟨as, q1, n1⟩ := Dx.reads I n d _ _ h1 r1
        obtain ⟨bs, q2, n2⟩ := Dx.readsAll I n ds _ _ h2 r2
        exact ⟨as ++ bs, ReadsAll.cons q1 q2, by simp [n1, n2]⟩
end
end
/-- what repr shows -/
structure Shw (d : PyData) : Prop where
  sh : d.showable = true
  dp : d.depth ≤ 60
  ln : d.shown.length ≤ sizeLine
/-- str of a thing -/
def strD : PyData → Str
  | .str x => x
  | d => d.shown
def rReprX : List V → Hp → VK → Prop := fun xs H Q => ∃ (v : V) (d : PyData), xs = [v] ∧ Dx H v d ∧ Shw d ∧ Q (.str d.shown) H
def rStrX : List V → Hp → VK → Prop := fun xs H Q => ∃ (v : V) (d : PyData), xs = [v] ∧ Dx H v d ∧ Shw d ∧ Q (.str (strD d)) H
section
variable {X : Cx}
theorem sys_noneX {pins : List (Addr × Obj)} {σ : List (Option V)} {H : Hp} {s : Shared} (I : Inv X pins σ H s) (k : SysK X.K) : H sysModules = none := by
  obtain ⟨o', h2⟩ := Option.isSome_iff_exists.mp k
  have h3 := I.ok.mod.kin _ _ h2
  obtain ⟨b1, b2⟩ := I.ok.bs _ _ h3
  exact I.base.free _ _ b1 b2 (I.ok.noex _ _ h3)
theorem call_reprX (k : SysK X.K) (hg : X.A.guards = some []) (hu : X.A.units + 64 < cLine) : CallR X (.builtin "repr") rReprX := by
  intro pins s σ H xs us Q I r h
  obtain ⟨v, d, rfl, hd, sh, q⟩ := h
  obtain ⟨u, rfl, r1⟩ := vals1 r
  · have n := sys_noneX I k
    have go : ∀ (a : Addr), v = .ref a → wpAny (model X.prog X.w) X.A (call (.builtin "repr") [u]) (fun u s' => ∃ x H', Inv X pins σ H' s' ∧ L2.RelV x u ∧ Q x H') X.xe s := fun a e => by
      subst e
      obtain ⟨as, rd, nm⟩ := Dx.reads I n d _ _ hd r1
      cases r1
      exact repr_of_reads' rd sh.sh (fun _ => nm) hg (by have := sh.dp; omega) (fun _ _ z => z) (fun h' u tk kk => ⟨.str d.shown, H, I.kept kk, ⟨_, rfl⟩, q⟩) sh.ln
    cases hd with
    | non => cases r1; exact PySem.P.repr_of_none ⟨.str _, H, I.tok _, ⟨_, rfl⟩, q⟩
    | bl b => cases r1; exact PySem.P.repr_of_bool ⟨.str _, H, I.tok _, ⟨_, rfl⟩, q⟩
    | int i =>
      obtain ⟨t, rfl⟩ := r1
      have hs := sh.sh
      exact PySem.P.repr_of_int (of_decide_eq_true hs) ⟨.str _, H, I.tok _, ⟨_, rfl⟩, q⟩
    | str x =>
      obtain ⟨t, rfl⟩ := r1
      exact PySem.P.repr_of_str ⟨.str _, H, I.tok _, ⟨_, rfl⟩, q⟩ (hsz := sh.ln)
    | lst _ _ => exact go _ rfl
    | tup _ _ => exact go _ rfl
    | dic _ => exact go _ rfl
theorem call_strX (k : SysK X.K) (hg : X.A.guards = some []) (hu : X.A.units + 64 < cLine) : CallR X (.type "str") rStrX := by
  intro pins s σ H xs us Q I r h
  obtain ⟨v, d, rfl, hd, sh, q⟩ := h
  obtain ⟨u, rfl, r1⟩ := vals1 r
  · have n := sys_noneX I k
    have go : ∀ (a : Addr), v = .ref a → strD d = d.shown → wpAny (model X.prog X.w) X.A (call (.type "str") [u]) (fun u s' => ∃ x H', Inv X pins σ H' s' ∧ L2.RelV x u ∧ Q x H') X.xe s := fun a e e2 => by
      subst e
      obtain ⟨as, rd, nm⟩ := Dx.reads I n d _ _ hd r1
      cases r1
      rw [e2] at q
      exact str_of_reads rd sh.sh (fun _ => nm) hg (by have := sh.dp; omega) (fun _ _ z => z) (fun h' u tk kk => ⟨.str d.shown, H, I.kept kk, ⟨_, rfl⟩, q⟩) sh.ln
    cases hd with
    | non => cases r1; exact PySem.P.str_of_none ⟨.str _, H, I.tok _, ⟨_, rfl⟩, q⟩
    | bl b => cases r1; exact PySem.P.str_of_bool ⟨.str _, H, I.tok _, ⟨_, rfl⟩, q⟩
    | int i =>
      obtain ⟨t, rfl⟩ := r1
      have hs := sh.sh
      exact PySem.P.str_of_int (of_decide_eq_true hs) ⟨.str _, H, I.tok _, ⟨_, rfl⟩, q⟩
    | str x =>
      obtain ⟨t, rfl⟩ := r1
      exact PySem.P.str_of_str ⟨.str x, H, I, ⟨t, rfl⟩, q⟩
    | lst _ _ => exact go _ rfl rfl
    | tup _ _ => exact go _ rfl rfl
    | dic _ => exact go _ rfl rfl
end
/-! ### small data, dicts too -/
structure Smx (d : PyData) (k m : Nat) : Prop where
  sh : d.showable = true
  dp : d.depth ≤ k
  lf : d.leavesShort 2000 = true
  wt : d.weight ≤ m
structure SmxA (ds : List PyData) (k m : Nat) : Prop where
  sh : PyData.showableAll ds = true
  dp : PyData.depthAll ds ≤ k
  lf : PyData.leavesShortAll 2000 ds = true
  wt : PyData.weightAll ds ≤ m
theorem Sml.smx {d : PyData} {k m : Nat} (h : Sml d k m) : Smx d k m := ⟨h.sh, h.dp, h.lf, h.wt⟩
theorem Smx.mono {d : PyData} {k m j n : Nat} (h : Smx d k m) (a : k ≤ j) (b : m ≤ n) : Smx d j n := ⟨h.sh, Nat.le_trans h.dp a, h.lf, Nat.le_trans h.wt b⟩
theorem SmxA.of {k m : Nat} : ∀ {ds : List PyData}, (∀ d ∈ ds, Smx d k m) → SmxA ds k ((m + 1) * ds.length)
  | [], _ => ⟨rfl, Nat.zero_le _, rfl, Nat.zero_le _⟩
  | d :: ds, h => by
    have a := h d List.mem_cons_self
    have r := SmxA.of fun e he => h e (List.mem_cons_of_mem d he)
    refine ⟨by show (d.showable && PyData.showableAll ds) = true; rw [a.sh, r.sh]; rfl, by show max d.depth (PyData.depthAll ds) ≤ _; have := a.dp; have := r.dp; omega, by show (d.leavesShort 2000 && PyData.leavesShortAll 2000 ds) = true; rw [a.lf, r.lf]; rfl, ?_⟩
    show d.weight + 1 + PyData.weightAll ds ≤ _
    have := a.wt
    have := r.wt
    rw [List.length_cons, Nat.mul_add]
    omega
theorem Smx.lst {ds : List PyData} {k m : Nat} (h : SmxA ds k m) : Smx (.list ds) (k + 1) m := ⟨h.sh, Nat.succ_le_succ h.dp, h.lf, h.wt⟩
theorem Smx.tup {ds : List PyData} {k m : Nat} (h : SmxA ds k m) : Smx (.tuple ds) (k + 1) m := ⟨h.sh, Nat.succ_le_succ h.dp, h.lf, h.wt⟩
theorem Smx.txt {x : Str} {n : Nat} (h : Sm n x) : Smx (.str x) 0 n := ⟨rfl, Nat.le_refl _, by
  show (x.cps.toList.all fun c => decide (c < 16 ^ 8)) = true
  exact List.all_eq_true.mpr fun c hc => decide_eq_true (Nat.lt_of_lt_of_le (h.2 c hc) (by decide)), h.1⟩
theorem Smx.shw {d : PyData} {k m : Nat} (h : Smx d k m) (a : k ≤ 60) (b : m ≤ 8000) : Shw d := by
  refine ⟨h.sh, Nat.le_trans h.dp a, Nat.le_trans (PyData.shown_le 2000 (by decide) d h.lf) ?_⟩
  rw [sizeLine_eq]
  have := Nat.mul_le_mul_left 2002 (Nat.le_trans h.wt b)
  omega
end Rl
end
section
set_option maxHeartbeats 4000000
namespace Rl
open PySem PySem.Spec PyProof.Rows L2
/-! ### isinstance of the exception that an except suite holds -/
/-- the exception's dict, if it has one, is known -/
def XdAt (d : Option Addr) (H : Hp) : Prop := d = none ∨ ∃ (dd : Addr) (fs : List (Str × V)), d = some dd ∧ H dd = some (.xd fs)
def rIsX (K : PySem.W.Frag) (a : Addr) (cls : Value) (d : Option Addr) : List V → Hp → VK → Prop := fun xs H Q => ∃ (D : Addr) (c : V) (cv : Value) (b : Bool), cls = .ref D ∧ XdAt d H ∧ xs = [.ref a, c] ∧ ClsV c cv ∧ ExcC K D ∧ PySem.W.kitOne K (.ref D) cv = some b ∧ Q (.bl b) H
def rIsXT (K : PySem.W.Frag) (a : Addr) (cls : Value) (d : Option Addr) : List V → Hp → VK → Prop := fun xs H Q => ∃ (D tp : Addr) (cs : List V) (ws : List Value) (b : Bool), cls = .ref D ∧ XdAt d H ∧ xs = [.ref a, .ref tp] ∧ H tp = some (.tup cs) ∧ Paired ClsV cs ws ∧ ExcC K D ∧ PySem.W.kitAny K (.ref D) ws = some b ∧ Q (.bl b) H
section
variable {X : Cx} {a D : Addr} {oe : Obj} {cls : Value} {d : Option Addr} {pn pins : List (Addr × Obj)} {σ : L2.St} {H : Hp} {s : Shared}
theorem inst_x (I : Inv (X.suite a ((a, oe) :: pn)) pins σ H s) (hz : Zc (.ref D) d oe) (hf : ∃ vs, oe.data = .fields vs) (hd : XdAt d H) : ∃ od, PySem.W.InstAt s.heap a oe D od := by
  obtain ⟨hg, _⟩ := I.pin (a, oe) (List.mem_append_left _ List.mem_cons_self)
  obtain ⟨vs, hv⟩ := hf
  rcases hd with rfl | ⟨dd, fs, rfl, hx⟩
  · exact ⟨none, hg, hz.1, by unfold PySem.W.notCls; rw [hv] <;> rfl, by rw [hz.2]; trivial⟩
  · obtain ⟨mA, hns, _⟩ := (show ObjOk X.prog X.w H s.heap dd (.xd fs) from I.hok dd _ hx)
    obtain ⟨od, ho, _⟩ := lookIn_ns hns
    exact ⟨some od, hg, hz.1, by unfold PySem.W.notCls; rw [hv] <;> rfl, by rw [hz.2]; exact ho⟩
theorem kit_x {od : Option Obj} (C : ExcC X.K D) : PySem.W.KitX X.K (.ref a) (.ref D) (fun h => PySem.W.InstAt h a oe D od) := by
  refine PySem.W.kitx_exc (gt := none) ?_ C.hg C.hk C.hs C.ha C.hn C.ht C.hm
  obtain ⟨cd, hc, _⟩ := PySem.W.any_some C.hd
  rw [hc]
  rfl
theorem call_isX (hz : Zc cls d oe) (hf : ∃ vs, oe.data = .fields vs) : CallR (X.suite a ((a, oe) :: pn)) (.builtin "isinstance") (rIsX X.K a cls d) := by
  intro pins s σ H xs us Q I r h
  obtain ⟨D, c, cv, b, rfl, hd, rfl, k, C, e, q⟩ := h
  obtain ⟨u1, u2, rfl, r1, r2⟩ := vals2 r
  have e2 := k.eq r2
  subst e2
  cases (show u1 = Value.ref a from r1)
  obtain ⟨od, J⟩ := inst_x I hz hf hd
  exact PySem.W.kia_one (kit_x C) I.kIn J e (fun z => nomatch z) fun tk => ⟨.bl b, H, I.tok tk, rfl, q⟩
theorem call_isXT (hz : Zc cls d oe) (hf : ∃ vs, oe.data = .fields vs) : CallR (X.suite a ((a, oe) :: pn)) (.builtin "isinstance") (rIsXT X.K a cls d) := by
  intro pins s σ H xs us Q I r h
  obtain ⟨D, tp, cs, ws, b, rfl, hd, rfl, hT, k, C, e, q⟩ := h
  obtain ⟨u1, u2, rfl, r1, r2⟩ := vals2 r
  cases (show u2 = Value.ref tp from r2)
  cases (show u1 = Value.ref a from r1)
  obtain ⟨od, J⟩ := inst_x I hz hf hd
  obtain ⟨_, its, rv, o, h1, h2, n, h3⟩ := (show ObjOk X.prog X.w H s.heap tp (.tup cs) from I.hok tp _ hT)
  have e3 := ClsV.all k rv
  subst e3
  obtain ⟨oc, odd, dt, sl⟩ := o
  simp only at h2 h3
  subst h2 h3
  exact PySem.W.kia_tup (kit_x C) I.kIn J h1 e (fun z => nomatch z) fun tk => ⟨.bl b, H, I.tok tk, rfl, q⟩
end
/-! ### calls by keywords, what is raised wished for at the caller's slots -/
def tCallNS (n m : Nat) (sp : Sp) (gV : List V → List V → List V) (E : L2.St → XK) (t tk : TA) : TE := fun σ H Q => t σ H fun vs H1 => tk σ H1 fun zs H2 => vs.length = n ∧ zs.length = m ∧ sp (gV vs zs) H2 Q (E σ)
section
variable {X : Cx} {CX : CXT} {k n : Nat} {f : Addr} {fd : FuncData} {ps ks : List Str} {sp : Sp} {E : L2.St → XK} {x : Str} {p pos : Pos} {kws : List Keyword} {t tk : TA} {g : List Value → List Value → List Value} {gV : List V → List V → List V}
theorem run_fnNS {pins : List (Addr × Obj)} {σ : L2.St} {H : Hp} {s : Shared} {Q : VK} {us ws : List Value} {vs zs : List V} (F : FnOk X.prog X.w X.K X.mg X.base CX k f fd ps sp) (hr : Room k X.A) (hb : KBn X.K fd ps n ks g gV) (hx : PassesAt CX X σ (E σ))
    (I : Inv X pins σ H s) (r : Vals vs us) (rz : Vals zs ws) (l1 : vs.length = n) (l2 : zs.length = ks.length) (h : sp (gV vs zs) H Q (E σ)) : wpAny (model X.prog X.w) X.A (call (.ref f) us (ks.zip ws)) (EP X pins σ Q) X.xe s := by
  refine wpAny_call (codeAny_mono (F.run X.A X.stack s H ⟨us, ks.zip ws⟩ (g us ws) (gV vs zs) Q (E σ) hr I.env0 (hb.to s us ws I.kIn (r.length.symm.trans l1) (rz.length.symm.trans l2)) (hb.rel r rz) h) fun o s' hq => ?_)
  cases o with
  | error e => exact hx pins H s e s' I hq
  | ok fl =>
    cases fl with
    | ret u => exact I.after hq
    | _ => exact False.elim hq
/-- f(k = v, ..), nothing by place -/
theorem pe_callNS0 (F : FnOk X.prog X.w X.K X.mg X.base CX k f fd ps sp) (hr : Room k X.A) (hg : Gl X x) (hm : X.mg x = some (.ref f)) (hk : PySem.W.keepIn X.K (.ref f) = true) (hb : KBn X.K fd ps 0 ks g gV) (hx : ∀ σ, PassesAt CX X σ (E σ))
    (hkw : PK X kws tk) (hall : (backToKw pos (keywordEach kws X.env)).all (·.1.isSome) = true := by rfl) (hks : (backToKw pos (keywordEach kws X.env)).filterMap (·.1) = ks := by rfl) (hdb : (x == ("__debug__" : Str)) = false := by decide)
    (hpl : ((backTo pos (starEach [] X.env)).any (·.1) || (backToKw pos (keywordEach kws X.env)).any (·.1.isNone)) = false := by rfl) : PE X (.Call (.Name x p) [] kws pos) (tCallNS 0 ks.length sp gV E tNil tk) := by
  refine ⟨fun pins s σ H Q I h => wpAny_Call_Name_kw (ld_glob I hg hm (PySem.W.callWith_KW0 (h₀ := X.base) I.ok.mod.kin hk hall ?_ hpl) hdb)⟩
  refine thn (hkw.run pos pins s σ H _ I h) fun ws s2 ⟨zs, H2, I2, rz, l1, l2, q2⟩ => ⟨I2.kIn, ?_⟩
  rw [hks]
  exact run_fnNS (us := []) (vs := []) F hr hb (hx σ) I2 .nil rz rfl l2 q2
end
/-- every parameter is written, some by name -/
theorem kbF {K : PySem.W.Frag} {x qual : Str} {st : Stmt} {f : Addr} {fd : FuncData} {ps : List Str} (F : Fun K x qual st f fd) (n : Nat) (ks : List Str)
    (h : ∀ (kV doc pm : Value) (an : Option Addr) (cdv ct : Value) (us ws : List Value), us.length = n → ws.length = ks.length → bindArgs (PySem.W.fnOf x qual (defArgs st) (defBody st) (defScope st) .none kV doc pm an cdv ct) ⟨us, ks.zip ws⟩ = pure (ps.zip (us ++ ws))) : KBn K fd ps n ks (fun us ws => us ++ ws) (fun vs zs => vs ++ zs) := by
  obtain ⟨oc, od, kV, doc, pm, an, cdv, ct, osl, rfl, lk, hcd⟩ := F.ex
  exact ⟨fun s us ws X l1 l2 => .of_eq (h kV doc pm an cdv ct us ws l1 l2), fun r1 r2 => r1.append r2⟩
/-- rows that are never come to -/
theorem pss_no {X : Cx} {ss : List Stmt} : PSs X ss (fun _ _ _ => False) := ⟨fun _ _ _ _ _ _ h => h.elim⟩
end Rl
end
section
set_option maxHeartbeats 4000000
namespace Rl
open PySem PySem.Spec PyProof.Rows L2 Nl Nt
/-- data, or a dict of ints by texts -/
def Dy (H : Hp) (v : V) (d : PyData) : Prop := Dx H v d ∨ ∃ (a : Addr) (B : Br), v = .ref a ∧ H a = some (.dK (bk B)) ∧ d = dN B
theorem Dy.same {H H' : Hp} {v : V} {d : PyData} (h : Dy H v d) (s : Same H H') : Dy H' v d :=
  h.imp (Dx.same s d v) fun ⟨a, B, e1, e2, e3⟩ => ⟨a, B, e1, s _ _ e2, e3⟩
def rReprY : List V → Hp → VK → Prop := fun xs H Q => ∃ (v : V) (d : PyData), xs = [v] ∧ Dy H v d ∧ Shw d ∧ Q (.str d.shown) H
theorem call_reprY {X : Cx} (k : SysK X.K) (hg : X.A.guards = some []) (hu : X.A.units + 64 < cLine) : CallR X (.builtin "repr") rReprY := by
  intro pins s σ H xs us Q I r h
  obtain ⟨v, d, rfl, hd, sh, q⟩ := h
  rcases hd with hd | ⟨a, B, rfl, ha, rfl⟩
  · exact call_reprX k hg hu pins s σ H _ us Q I r ⟨v, d, rfl, hd, sh, q⟩
  · obtain ⟨u, rfl, r1⟩ := vals1 r
    cases r1
    obtain ⟨as, rd, nm⟩ := reads_dN I ha
    exact repr_of_reads' rd sh.sh (fun _ => nm) hg (by have := sh.dp; omega) (fun _ _ z => z) (fun h' u tk kk => ⟨.str _, H, I.kept kk, ⟨_, rfl⟩, q⟩) sh.ln
end Rl
namespace Nl
open PySem PySem.Spec PyProof.Rows L2 Nt
theorem xd_sameV {H : Hp} {a dx C : Addr} {fs : List (Str × V)} (na : H a = none) (nd : H dx = none) : Same H (upd (del (upd (upd (upd H a (exo a C none)) dx (exd dx fs)) a (exo a C (some dx))) a) dx (.xd fs)) := fun b o e => by
  have h1 : b ≠ a := ne_of_none e na
  have h2 : b ≠ dx := ne_of_none e nd
  rw [upd_ne h2, del_ne h1, upd_ne h1, upd_ne h2, upd_ne h1]
  exact e
section
variable {P : Program} {w : World} {K : PySem.W.Frag} {mg : Str → Option Value} {base : Heap}
/-- an __init__ that keeps one thing of any kind by the name f -/
def spX1V (C : Addr) (f : Str) : Sp := fun vs H Q _ => ∃ (a : Addr) (v : V), vs = [.ref a, v] ∧ H a = some (exo a C none) ∧
  ∀ dx, H dx = none → dx ≠ a → Q .non (upd (upd H dx (exd dx [(f, v)])) a (exo a C (some dx)))
theorem ok_xNoPond {f C cda cc : Addr} {fd : FuncData} (T : Rl.SuX P K mg C f xNoPond "NoPond.__init__" fd cda cc) (nn : PySem.W.findIn K (.ref C) "name" = some none) : FnOk P w K mg base CX0 1 f fd ["self", "name"] (spX1V C "name") := by
  refine Rl.exi_of (N := ["self", "name", "__class__"]) T rfl rfl (NdefX.nscope_by (by decide +kernel)) rfl (by decide +kernel) (fun vs H Q E h => ?_) (fun A outer s H vs Q E hr h => ?_)
  · obtain ⟨a, y, rfl, _⟩ := h
    rfl
  · obtain ⟨a, v, rfl, ea, q⟩ := h
    refine ⟨a, [v], _, _, rfl, ea, pa_cons pe_str pa_nil, pss_one (ps_ost (pv 0) (pv 1)), ?_⟩
    refine ⟨(by show 1 ≤ 1000; decide), ea, ?_⟩
    exact ⟨v, rfl, .ref a, rfl, a, C, rfl, T.o, nn, .inl ⟨ea, q⟩⟩
/-- no pond of the net -/
def NoPnd (K : PySem.W.Frag) (H : Hp) (B : Br) (v : V) : Prop := Odd K H v ∨ ∃ z, v = .str z ∧ Sm 25 z ∧ (nameB z && decide (z ∈ nms B)) = false
theorem NoPnd.same {K : PySem.W.Frag} {H H' : Hp} {B : Br} {v : V} (h : NoPnd K H B v) (s : Same H H') : NoPnd K H' B v := h.imp (fun o => o.same s) id
def spChkX (K : PySem.W.Frag) (C CR : Addr) : Sp := fun vs H _ E => ∃ (n : Addr) (B : Br) (Pp : Pi) (v : V), vs = [.ref n, v] ∧ NetAt C H n B Pp ∧ NoPnd K H B v ∧
  ∀ (H' : Hp) (d : Addr), Same H H' → H d = none → H' d = some (.xd [("name", v)]) → E (.ref CR) (some d) H'
theorem ok_chkX {f C CR f1 f2 cda cc : Addr} {fd fd1 fd2 : FuncData} (F : Fun K "check_pond" "Net.check_pond" mNet_check_pond f fd) (T : TxN K mg C)
    (m1 : Meth K C "has_pond" f1) (G1 : FnOk P w K mg base CX0 3 f1 fd1 ["self", "thing"] (spHasT K C)) (b1 : Binds K fd1 ["self", "thing"] [])
    (TX : Rl.SuX P K mg CR f2 xNoPond "NoPond.__init__" fd2 cda cc) (G2 : FnOk P w K mg base CX0 1 f2 fd2 ["self", "name"] (spX1V CR "name")) (b2 : Binds K fd2 ["self", "name"] []) (g2 : mg "NoPond" = some (.ref CR)) :
    FnOk P w K mg base (L2.CX P w) 4 f fd ["self", "thing"] (spChkX K C CR) := by
  refine F.okX scChk (fun vs H Q E h => ?_) (fun cdv A outer s H vs Q E hr h => ?_)
  · obtain ⟨n, B, Pp, z, rfl, _⟩ := h
    rfl
  · obtain ⟨n, B, Pp, v, rfl, N, no, q⟩ := h
    have hr2 : Room 2 _ := hr.mono (show 2 ≤ 3 by decide)
    obtain ⟨dx, d1, d2, hn, h1, h2⟩ := id N.at_
    refine ⟨_, pss_one (ps_if (pt_not (pt_val (pe_meth (pv 0) T.cl m1 G1 hr b1 .nil pass0 (pa_cons (pv 1) pa_nil)))) (pss_one (ps_raise rfl (takes_of (E := E) rfl rfl rfl rfl) (pmk_oex TX.o TX.iC TX.tI G2 hr2 b2 .nil pass0 (by rfl) g2 (pa_cons (pv 1) pa_nil)))) pss_nil), ?_⟩
    refine ⟨.ref n, rfl, n, dx, _, rfl, hn, no_attr, v, rfl, ?_⟩
    have go : ∀ H1, Same H H1 → (∀ a, H1 a = none → ∀ dx, upd H1 a (exo a CR none) dx = none → dx ≠ a → E (.ref CR) (some dx) (upd (del (upd (upd (upd H1 a (exo a CR none)) dx (exd dx [("name", v)])) a (exo a CR (some dx))) a) dx (.xd [("name", v)]))) := fun H1 s1 a na dx nd ne => by
      rw [upd_ne ne] at nd
      exact q _ dx (s1.trans (xd_sameV na nd)) (s1.free nd) upd_same
    rcases no with od | ⟨z, rfl, sm, nz⟩
    · refine .inr ⟨n, B, v, rfl, N.rd, od, fun H1 s1 => ⟨false, rfl, iteT ?_⟩⟩
      refine ⟨v, rfl, (by show 1 ≤ 1000; decide), fun a na => ⟨a, v, rfl, upd_same, fun dx nd ne => ⟨rfl, dx, [("name", v)], upd_same, ?_, ?_, ?_⟩⟩⟩
      · rw [upd_ne ne, upd_same]
      · rw [upd_ne ne] at nd
        exact nd
      · exact go H1 s1 a na dx nd ne
    · refine .inl ⟨n, B, z, rfl, N.rd, sm, fun H1 s1 => ?_⟩
      rw [nz]
      refine ⟨false, rfl, iteT ?_⟩
      refine ⟨.str z, rfl, (by show 1 ≤ 1000; decide), fun a na => ⟨a, .str z, rfl, upd_same, fun dx nd ne => ⟨rfl, dx, [("name", .str z)], upd_same, ?_, ?_, ?_⟩⟩⟩
      · rw [upd_ne ne, upd_same]
      · rw [upd_ne ne] at nd
        exact nd
      · exact go H1 s1 a na dx nd ne
def spWayX (K : PySem.W.Frag) (C CR : Addr) : Sp := fun vs H _ E => ∃ (n : Addr) (B : Br) (Pp : Pi) (v : V), vs = [.ref n, v] ∧ NetAt C H n B Pp ∧ NoPnd K H B v ∧
  ∀ (H' : Hp) (d : Addr), Same H H' → H d = none → H' d = some (.xd [("name", v)]) → E (.ref CR) (some d) H'
theorem ok_wayX {f C CR f1 : Addr} {fd fd1 : FuncData} (F : Fun K "way_out" "way_out" s_way_out f fd) (T : TxN K mg C)
    (m1 : Meth K C "check_pond" f1) (G1 : FnOk P w K mg base (L2.CX P w) 4 f1 fd1 ["self", "thing"] (spChkX K C CR)) (b1 : Binds K fd1 ["self", "thing"] []) :
    FnOk P w K mg base (L2.CX P w) 6 f fd ["net", "name"] (spWayX K C CR) := by
  refine F.okX scWayOut (fun vs H Q E h => ?_) (fun cdv A outer s H vs Q E hr h => ?_)
  · obtain ⟨n, B, Pp, z, rfl, _⟩ := h
    rfl
  · obtain ⟨n, B, Pp, v, rfl, N, no, q⟩ := h
    have hr4 := hr.mono (show 4 ≤ 5 by decide)
    obtain ⟨dx, d1, d2, hn, h1, h2⟩ := id N.at_
    refine ⟨_, pss_cons (ps_expr (pe_meth (pv 0) T.cl m1 G1 hr4 b1 .nil (passes_call (takes_of (E := E) rfl rfl rfl rfl) fun _ _ _ _ h => h) (pa_cons (pv 1) pa_nil))) Rl.pss_no, ?_⟩
    exact ⟨.ref n, rfl, n, dx, _, rfl, hn, no_attr, v, rfl, n, B, Pp, v, rfl, N, no, q⟩
end
end Nl
end
section
set_option maxHeartbeats 4000000
namespace Nl
open PySem PySem.Spec PyProof.Rows L2 Nt
def spLRefused (K : PySem.W.Frag) (C : Addr) : Sp := fun vs H Q _ => ∃ (n : Addr) (B : Br) (Pp : Pi) (v : V) (d : PyData), vs = [.ref n, v] ∧ NetAt C H n B Pp ∧ NoPnd K H B v ∧ Rl.Dy H v d ∧ Rl.Shw d ∧ ∀ H', Same H H' → Q (.bl true) H'
section
variable {P : Program} {w : World} {K : PySem.W.Frag} {mg : Str → Option Value} {base : Heap}
theorem scLRefused : FnScope ["_law_net_here", "_law_thing", "_law_shown", "_law_said", "e"] ["_law_net_here", "_law_thing"] (defScope sRefused) := ⟨rfl, rfl, rfl, by decide +kernel, rfl, by decide +kernel, by decide +kernel⟩
theorem ok_lrefused {f  C : Addr} {fd  : FuncData} {CR f_wayOut : Addr} {fd_wayOut : FuncData} (F : Fun K "_law_refused" "_law_refused" sRefused f fd) (T : TxN K mg C) (k_sys : Rl.SysK K) (g_CR : mg "NoPond" = some (.ref CR)) (xf_CR : XfC K CR) (n_CR : PySem.W.findIn K (.ref CR) "name" = some none) (e_CR : PySem.W.exmOne K (.ref CR) (.ref CR) = some true)
    (F_wayOut : Fun K "way_out" "way_out" s_way_out f_wayOut fd_wayOut) (GX_wayOut : FnOk P w K mg base (L2.CX P w) 6 f_wayOut fd_wayOut ["net", "name"] (spWayX K C CR)) (b_wayOut : Binds K fd_wayOut ["net", "name"] []) (g_wayOut : mg "way_out" = some (.ref f_wayOut)) 
    (x_repr : mg "repr" = none) : Rl.FnG P w K mg base CX0 8 f fd ["_law_net_here", "_law_thing"] (spLRefused K C) := by
  refine Rl.okG F scLRefused (fun vs H Q E h => ?_) (fun cdv A outer s H vs Q E hg hr h => ?_)
  · obtain ⟨n, B, Pp, v, d, rfl, _⟩ := h
    rfl
  · obtain ⟨n, B, Pp, v, d, rfl, N, no, dy, sh, q⟩ := h
    refine ⟨_, (pss_cons (ps_par (i := 2) (j := 3) rfl scLRefused.nd rfl rfl (by decide) rfl rfl (pa_cons (pe_callB (r := Rl.rReprY) (Rl.call_reprY k_sys hg hr.units) (by rfl) x_repr (by decide +kernel) (pa_cons (pv 1) pa_nil)) (pa_cons pe_non pa_nil)) (by rfl))
      (pss_cons (ps_try_as (i := 4) (c := .ref CR) (tb := fun W => tDrop (tCallS (spWayX K C CR) (WE W) (tCons (tVar 0) (tCons (tVar 1) tNil))))
          (ts := fun a cls d => tAsg (tCB Rl.rReprY (tCons (tXf a cls d CR "name" (tVar 4)) tNil)) (gName 3))
          (Wout := fun _ _ _ _ => False) rfl rfl scLRefused.nd rfl rfl ⟨rfl, by decide, Or.inl g_CR⟩ takes0
          (fun W pn xe tk _ => pss_one (ps_expr (pe_callS GX_wayOut (hr.mono (by decide)) (by rfl) g_wayOut F_wayOut.kp b_wayOut (fun σ => passAt tk σ) (pa_cons (pv 0) (pa_cons (pv 1) pa_nil)))))
          (fun a oe cls d pn hz hf => pss_one (ps_set (i := 3) scLRefused.nd rfl (Or.inl rfl) (pe_callB (r := Rl.rReprY) (Rl.call_reprY k_sys hg hr.units) (by rfl) x_repr (by decide +kernel) (pa_cons (pe_xf xf_CR n_CR hz hf (pv 4)) pa_nil)))))
      (pss_one (ps_ret (pe_and (pe_cmpR op_eq (pv 3) (pv 2) (nomark _)) (pe_one (pe_cmpR op_eq (pe_callB (r := Rl.rReprY) (Rl.call_reprY k_sys hg hr.units) (by rfl) x_repr (by decide +kernel) (pa_cons (pv 1) pa_nil)) (pv 2) (nomark _)))))))), ?_⟩
    refine ⟨v, rfl, v, d, rfl, dy, sh, .str d.shown, .non, rfl, ?_⟩
    refine ⟨.ref n, rfl, v, rfl, n, B, Pp, v, rfl, N, no, fun H1 dd s1 nd hd => ?_⟩
    refine ⟨true, e_CR, fun _ a na => ?_, fun c => by cases c⟩
    refine ⟨.ref a, rfl, rfl, rfl, dd, _, v, rfl, hd, by simp [List.lookup], v, d, rfl, dy.same s1, sh, ?_⟩
    refine ⟨.str d.shown, rfl, .str d.shown, rfl, rfl, ?_⟩
    rw [decide_eq_true rfl]
    refine ⟨true, rfl, iteT ?_⟩
    refine ⟨v, rfl, v, d, rfl, dy.same s1, sh, .str d.shown, rfl, rfl, ?_⟩
    rw [decide_eq_true rfl]
    exact q _ s1
end
end Nl
end
section
set_option maxHeartbeats 1000000
namespace Nl
open PySem PySem.Spec PyProof.Rows L2 Nt
/-! ### sorted in one way -/
theorem str_ext {x y : Str} (h : x.cps.toList = y.cps.toList) : x = y := by
  cases x with
  | mk a =>
    cases y with
    | mk b =>
      have : a = b := Array.toList_inj.mp h
      rw [this]
theorem rising_pw : ∀ (l : List Str) (p : Str), risingS p l = true → (p :: l).Pairwise (fun a b => a.cps.toList ≤ b.cps.toList)
  | [], p, _ => List.pairwise_singleton _ _
  | x :: r, p, h => by
    have h' : (!ltCps x.cps.toList p.cps.toList && risingS x r) = true := h
    obtain ⟨h1, h2⟩ := Bool.and_eq_true_iff.mp h'
    have ih := rising_pw r x h2
    rw [ltCps_eq] at h1
    have hpx : p.cps.toList ≤ x.cps.toList := fun z => by
      rw [decide_eq_true z] at h1; cases h1
    refine List.pairwise_cons.mpr ⟨fun y hy => ?_, ih⟩
    rcases List.mem_cons.mp hy with rfl | hy
    · exact hpx
    · exact List.le_trans hpx ((List.pairwise_cons.mp ih).1 y hy)
theorem sorted_pw {l : List Str} (h : sortedS l = true) : l.Pairwise (fun a b => a.cps.toList ≤ b.cps.toList) := by
  cases l with
  | nil => exact .nil
  | cons x r => exact rising_pw r x h
theorem pw_uniq : ∀ {l m : List Str}, l.Perm m → l.Pairwise (fun a b => a.cps.toList ≤ b.cps.toList) → m.Pairwise (fun a b => a.cps.toList ≤ b.cps.toList) → l = m
  | [], m, pm, _, _ => (List.nil_perm.mp pm).symm
  | x :: r, [], pm, _, _ => absurd pm.length_eq (by simp)
  | x :: r, y :: t, pm, hl, hm => by
    have e : x = y := by
      have h1 : x ∈ y :: t := pm.mem_iff.mp List.mem_cons_self
      have h2 : y ∈ x :: r := pm.mem_iff.mpr List.mem_cons_self
      rcases List.mem_cons.mp h1 with e | h1
      · exact e
      · rcases List.mem_cons.mp h2 with e | h2
        · exact e.symm
        · exact str_ext (List.le_antisymm ((List.pairwise_cons.mp hl).1 y h2) ((List.pairwise_cons.mp hm).1 x h1))
    subst e
    rw [pw_uniq pm.cons_inv (List.pairwise_cons.mp hl).2 (List.pairwise_cons.mp hm).2]
theorem sorted_uniq {l m : List Str} (pm : l.Perm m) (hl : sortedS l = true) (hm : sortedS m = true) : l = m := pw_uniq pm (sorted_pw hl) (sorted_pw hm)
/-! ### a stand, told by the dicts that the law has -/
def mostOf (B : Br) (Pp : Pi) (Qp Qc : Br) (z : Str) : Int := if waterOf B Pp Qp Qc z / val0 B z > 0 then waterOf B Pp Qp Qc z / val0 B z else 0
def soakOf (B : Br) (Pp : Pi) (Qc : Br) : Int := (B.map fun p => (p.2 - outW Pp p.1) * val0 Qc p.1).sum
def StOf (CS C : Addr) (H : Hp) (s : Addr) (B : Br) (Pp : Pi) (Qp Qc : Br) : Prop := ∃ (B' : Br) (P' : Pi) (Qp' Qc' : Br), StandAt CS C H s B' P' Qp' Qc' ∧ Good B' P' ∧ B'.Perm B ∧ P'.Perm Pp ∧ sortedS (nms B') = true ∧ Full B' Qp' ∧ Full B' Qc' ∧
  (∀ x ∈ nms B, val0 Qp' x = val0 Qp x) ∧ (∀ x ∈ nms B, val0 Qc' x = val0 Qc x) ∧ ∀ x ∈ nms B, 0 ≤ val0 Qp x ∧ 0 ≤ val0 Qc x
theorem StOf.same {CS C : Addr} {H H' : Hp} {s : Addr} {B : Br} {Pp : Pi} {Qp Qc : Br} (h : StOf CS C H s B Pp Qp Qc) (sm : Same H H') : StOf CS C H' s B Pp Qp Qc := by
  obtain ⟨B', P', Qp', Qc', a, r⟩ := h
  exact ⟨B', P', Qp', Qc', a.same sm, r⟩
/-- the numbers alone count -/
theorem StOf.alike {CS C : Addr} {H : Hp} {s : Addr} {B : Br} {Pp : Pi} {Qp Qc Qc2 : Br} (h : StOf CS C H s B Pp Qp Qc) (e : ∀ x ∈ nms B, val0 Qc x = val0 Qc2 x) : StOf CS C H s B Pp Qp Qc2 := by
  obtain ⟨B', P', Qp', Qc', a, g, pB, pP, so, f1, f2, v1, v2, nn⟩ := h
  exact ⟨B', P', Qp', Qc', a, g, pB, pP, so, f1, f2, v1, fun x hx => (v2 x hx).trans (e x hx), fun x hx => ⟨(nn x hx).1, by rw [← e x hx]; exact (nn x hx).2⟩⟩
theorem sf_inj {n d1 d2 n' d1' d2' : Addr} (h : sf n d1 d2 = sf n' d1' d2') : n = n' ∧ d1 = d1' ∧ d2 = d2' := by
  have e1 := sf_n n d1 d2
  have e2 := sf_p n d1 d2
  have e3 := sf_c n d1 d2
  rw [h, sf_n] at e1
  rw [h, sf_p] at e2
  rw [h, sf_c] at e3
  cases e1
  cases e2
  cases e3
  exact ⟨rfl, rfl, rfl⟩
theorem nf_inj {d1 d1' : Addr} {d2 d2' : Dd} (h : nf d1 d2 = nf d1' d2') : d1 = d1' ∧ d2 = d2' := by
  have e1 := nf_b d1 d2
  have e2 := nf_w d1 d2
  have e3 := nf_o d1 d2
  have e4 := nf_i d1 d2
  rw [h, nf_b] at e1
  rw [h, nf_w] at e2
  rw [h, nf_o] at e3
  rw [h, nf_i] at e4
  obtain ⟨a, b, c⟩ := d2
  obtain ⟨a', b', c'⟩ := d2'
  cases e1
  cases e2
  cases e3
  cases e4
  exact ⟨rfl, rfl⟩
/-- none of the stand's own dicts is that one -/
def Off (CS C : Addr) (H : Hp) (s a : Addr) : Prop := ∃ dx n d1 d2 dxn e1 e2, H s = some (.ins CS dx (sf n d1 d2)) ∧ H n = some (.ins C dxn (nf e1 e2)) ∧ a ≠ d1 ∧ a ≠ d2 ∧ a ≠ e1 ∧ a ≠ e2.o ∧ a ≠ e2.i
theorem Off.keep {CS C : Addr} {H H' : Hp} {s a : Addr} (h : Off CS C H s a) (k : ∀ x C dx fs, H x = some (.ins C dx fs) → H' x = some (.ins C dx fs)) : Off CS C H' s a := by
  obtain ⟨dx, n, d1, d2, dxn, e1, e2, a1, a2, r⟩ := h
  exact ⟨dx, n, d1, d2, dxn, e1, e2, k _ _ _ _ a1, k _ _ _ _ a2, r⟩
theorem Off.same {CS C : Addr} {H H' : Hp} {s a : Addr} (h : Off CS C H s a) (k : Same H H') : Off CS C H' s a := h.keep fun x _ _ _ e => k x _ e
/-- that one may be anything, and the stand stands -/
theorem StOf.lock {CS C : Addr} {H : Hp} {s a : Addr} {B : Br} {Pp : Pi} {Qp Qc : Br} {u : List (Key × V)} (S : StOf CS C H s B Pp Qp Qc) (f : Off CS C H s a) (ha : H a = some (.dK u)) (x : HO) : StOf CS C (upd H a x) s B Pp Qp Qc ∧ Off CS C (upd H a x) s a := by
  obtain ⟨B', P', Qp', Qc', SA, r⟩ := S
  obtain ⟨dx, n, d1, d2, hs, N, h1, h2⟩ := SA.at_
  obtain ⟨dxn, e1, e2, hn, h3, h4, h5, h6⟩ := N.at_
  obtain ⟨dx', n', d1', d2', dxn', e1', e2', f1, f2, f3, f4, f5, f6, f7⟩ := id f
  rw [hs] at f1
  injection f1 with f1
  injection f1 with _ _ f1
  obtain ⟨rfl, rfl, rfl⟩ := sf_inj f1
  rw [hn] at f2
  injection f2 with f2
  injection f2 with _ _ f2
  obtain ⟨rfl, rfl⟩ := nf_inj f2
  have k : ∀ {y : Addr} {o : HO}, H y = some o → (∀ v, o ≠ .dK v) → (upd H a x) y = some o := fun {y o} e no => by
    have : y ≠ a := fun ey => by
      subst ey
      rw [ha] at e
      exact no u (Option.some.inj e).symm
    rw [upd_ne this]; exact e
  refine ⟨⟨B', P', Qp', Qc', ⟨dx, n, d1, d2, k hs (fun v e => by cases e), ⟨dxn, e1, e2, k hn (fun v e => by cases e), ?_, k h4 (fun v e => by cases e), h5.keep (fun x e => by rw [upd_ne (Ne.symm f6)]; exact e) (fun b oq xs e => k e (fun v e => by cases e)) (fun b xs e => k e (fun v e => by cases e)), h6.keep (fun x e => by rw [upd_ne (Ne.symm f7)]; exact e) (fun b oq xs e => k e (fun v e => by cases e)) (fun b xs e => k e (fun v e => by cases e))⟩, ?_, ?_⟩, r⟩, f.keep fun y _ _ _ e => k e (fun v e => by cases e)⟩
  · rw [upd_ne (Ne.symm f5)]; exact h3
  · rw [upd_ne (Ne.symm f3)]; exact h1
  · rw [upd_ne (Ne.symm f4)]; exact h2
/-! what the six of spills promise, as the law asks it -/
def spMost (CS C : Addr) : Sp := fun vs H Q _ => ∃ (s : Addr) (B : Br) (Pp : Pi) (Qp Qc : Br) (z : Str), vs = [.ref s, .str z] ∧ StOf CS C H s B Pp Qp Qc ∧ Good B Pp ∧ z ∈ nms B ∧ ∀ H', Same H H' → Q (.int (mostOf B Pp Qp Qc z)) H'
def spCan (CS C : Addr) : Sp := fun vs H Q _ => ∃ (s : Addr) (B : Br) (Pp : Pi) (Qp Qc : Br) (z : Str) (t : Int), vs = [.ref s, .str z, .int t] ∧ StOf CS C H s B Pp Qp Qc ∧ Good B Pp ∧ z ∈ nms B ∧ 1 ≤ t ∧ ∀ H', Same H H' → Q (.bl (decide (t ≤ mostOf B Pp Qp Qc z))) H'
def spSpilling (CS C : Addr) : Sp := fun vs H Q _ => ∃ (s : Addr) (B : Br) (Pp : Pi) (Qp Qc : Br), vs = [.ref s] ∧ StOf CS C H s B Pp Qp Qc ∧ Good B Pp ∧
  ∀ (H' : Hp) (r : Addr) (ys : List Str), Same H H' → H r = none → ys.Perm (nms B) → sortedS ys = true → H' r = some (.lst ((ys.filter fun z => decide (mostOf B Pp Qp Qc z > 0)).map V.str)) → Q (.ref r) H'
def spAtRest (CS C : Addr) : Sp := fun vs H Q _ => ∃ (s : Addr) (B : Br) (Pp : Pi) (Qp Qc : Br), vs = [.ref s] ∧ StOf CS C H s B Pp Qp Qc ∧ Good B Pp ∧ ∀ H', Same H H' → Q (.bl (decide (∀ z ∈ nms B, ¬ mostOf B Pp Qp Qc z > 0))) H'
def spSpilled (CS C : Addr) : Sp := fun vs H Q _ => ∃ (s : Addr) (B : Br) (Pp : Pi) (Qp Qc : Br) (z : Str) (t : Int), vs = [.ref s, .str z, .int t] ∧ StOf CS C H s B Pp Qp Qc ∧ Good B Pp ∧ z ∈ nms B ∧ 1 ≤ t ∧ t ≤ mostOf B Pp Qp Qc z ∧
  ∀ (H' : Hp) (r : Addr), Same H H' → H r = none → (∀ Qc2 : Br, (∀ x ∈ nms B, val0 Qc2 x = val0 Qc x + if x = z then t else 0) → StOf CS C H' r B Pp Qp Qc2) → (∀ a, Off CS C H s a → H a ≠ none → Off CS C H' r a) → Q (.ref r) H'
def spSoaked (CS C : Addr) : Sp := fun vs H Q _ => ∃ (s : Addr) (B : Br) (Pp : Pi) (Qp Qc : Br), vs = [.ref s] ∧ StOf CS C H s B Pp Qp Qc ∧ Good B Pp ∧ ∀ H', Same H H' → Q (.int (soakOf B Pp Qc)) H'
end Nl
end
section
set_option maxHeartbeats 4000000
namespace Nl
open PySem PySem.Spec PyProof.Rows L2 Nt
theorem mostOf_nonneg (B : Br) (Pp : Pi) (Qp Qc : Br) (z : Str) : 0 ≤ mostOf B Pp Qp Qc z := by
  unfold mostOf
  split <;> omega
/-- what the pot's turns leave as it is -/
theorem Kp.keep {p x : Addr} {H H' : Hp} {o : HO} (hP : PotAt H p) (k : Kp p H H') (h : H x = some o) (no : ∀ l, o ≠ .lst l) : H' x = some o := by
  obtain ⟨a, b, hp, _⟩ := hP
  refine k x o (fun e => ?_) h
  subst e
  rw [hp] at h
  exact no _ (Option.some.inj h).symm
theorem NetAt.kp {C p n : Addr} {H H' : Hp} {B : Br} {Pp : Pi} (hP : PotAt H p) (k : Kp p H H') (h : NetAt C H n B Pp) : NetAt C H' n B Pp := by
  obtain ⟨dx, d1, d2, a, b, c, e, f⟩ := h
  have sd : ∀ {d : Addr} {g : Str → List (Str × Int)} {l : List Str}, SideAt H d g l → SideAt H' d g l := fun {d g l} S => by
    obtain ⟨ls, e1, _⟩ := id S
    exact S.keep (fun x e => by rw [e1] at e; cases e; exact k.keep hP e1 (fun v e => by cases e)) (fun b oq xs e => k.keep hP e (fun v e => by cases e)) (fun b xs e => k.keep hP e (fun v e => by cases e))
  exact ⟨dx, d1, d2, k.keep hP a (fun l e => by cases e), k.keep hP b (fun l e => by cases e), k.keep hP c (fun l e => by cases e), sd e, sd f⟩
theorem StandAt.kp {CS C p s : Addr} {H H' : Hp} {B : Br} {Pp : Pi} {Qp Qc : Br} (hP : PotAt H p) (k : Kp p H H') (h : StandAt CS C H s B Pp Qp Qc) : StandAt CS C H' s B Pp Qp Qc := by
  obtain ⟨dx, n, d1, d2, a, b, c, d⟩ := h
  exact ⟨dx, n, d1, d2, k.keep hP a (fun l e => by cases e), b.kp hP k, k.keep hP c (fun l e => by cases e), k.keep hP d (fun l e => by cases e)⟩
theorem StOf.kp {CS C p s : Addr} {H H' : Hp} {B : Br} {Pp : Pi} {Qp Qc : Br} (hP : PotAt H p) (k : Kp p H H') (h : StOf CS C H s B Pp Qp Qc) : StOf CS C H' s B Pp Qp Qc := by
  obtain ⟨B', P', Qp', Qc', a, r⟩ := h
  exact ⟨B', P', Qp', Qc', a.kp hP k, r⟩
theorem Kp.free {p x : Addr} {H H' : Hp} (hP : PotAt H' p) (k : Kp p H H') (n : H' x = none) : H x = none := by
  cases e : H x with
  | none => rfl
  | some o =>
    have := k x o (hP.ne n) e
    rw [n] at this; cases this
/-! ### pairs made to a dict -/
theorem paired_of {K : PySem.W.Frag} {H : Hp} : ∀ {as : List Addr} {l : List (Str × Int)}, PairsAt H as l → Paired (fun p (kv : Key × V) => SqT K H p [kV kv.1, kv.2]) as (bk l)
  | [], [], _ => .nil
  | [], x :: l, h => absurd h.1 (by simp)
  | a :: as, [], h => absurd h.1 (by simp)
  | a :: as, x :: l, h => by
    obtain ⟨q, e1, e2⟩ := h.2 0 x rfl
    have e1' : a = q := Option.some.inj e1
    subst e1'
    refine .cons (SqT.of e2) (paired_of ⟨Nat.succ.inj h.1, fun i p e => ?_⟩)
    obtain ⟨q, f1, f2⟩ := h.2 (i + 1) p e
    exact ⟨q, f1, f2⟩
theorem merge_bk : ∀ (l m : Br), (nms (m ++ l)).Nodup → mergeK (bk m) (bk l) = bk (m ++ l)
  | [], m, _ => by rw [List.append_nil]; rfl
  | x :: l, m, nd => by
    have fr : x.1 ∉ nms m := by
      rw [nms_append, List.nodup_append] at nd
      exact fun h => nd.2.2 x.1 h x.1 (by show x.1 ∈ x.1 :: nms l; exact List.mem_cons_self) rfl
    show mergeK (putK (bk m) (Sum.inr x.1) (.int x.2)) (bk l) = _
    rw [putK_bk fr, merge_bk l (m ++ [(x.1, x.2)]) (by rw [List.append_assoc]; exact nd), List.append_assoc]
    rfl
theorem eqv_strs {l : List Str} (h : ∀ z ∈ l, Sm 25 z) : PyData.eqv (.list (l.map PyData.str)) (.list (l.map PyData.str)) = true := SeqAt.eqv_refl _ (SeqAt.canLay_of_shaped (shaped_strs h))
theorem eqv_nil (l : List Str) : PyData.eqv (.list (l.map PyData.str)) (.list []) = l.isEmpty := by
  cases l <;> simp [PyData.eqv, PyData.eqvAll]
theorem shaped_nil : SeqAt.shaped (.list []) = true := by simp [SeqAt.shaped, PyData.canLay0, PyData.canLayAll0, PyData.depth, PyData.depthAll]
theorem all_trues : ∀ n : Nat, (List.replicate n true).all id = true
  | 0 => rfl
  | n + 1 => by rw [List.replicate_succ]; simp [all_trues n]
/-- all that is no list stays -/
def NL (H H' : Hp) : Prop := ∀ x o, H x = some o → (∀ q, o ≠ .lst q) → H' x = some o
theorem NL.trans {H H1 H2 : Hp} (a : NL H H1) (b : NL H1 H2) : NL H H2 := fun x o e n => b x o (a x o e n) n
theorem NL.of_same {H H' : Hp} (s : Same H H') : NL H H' := fun x o e _ => s x o e
theorem NL.of_kp {p : Addr} {H H' : Hp} (hP : PotAt H p) (k : Kp p H H') : NL H H' := fun x o e n => k.keep hP e n
theorem NL.lst {H : Hp} {l : Addr} {xs ys : List V} (h : H l = some (.lst xs)) : NL H (upd H l (.lst ys)) := fun x o e n => by
  have nx : x ≠ l := fun z => by subst z; rw [h] at e; exact n _ (Option.some.inj e).symm
  rw [upd_ne nx]; exact e
theorem NetAt.nl {C n : Addr} {H H' : Hp} {B : Br} {Pp : Pi} (k : NL H H') (h : NetAt C H n B Pp) : NetAt C H' n B Pp := by
  obtain ⟨dx, d1, d2, a, b, c, e, f⟩ := h
  have sd : ∀ {d : Addr} {g : Str → List (Str × Int)} {l : List Str}, SideAt H d g l → SideAt H' d g l := fun {d g l} S => by
    obtain ⟨ls, e1, _⟩ := id S
    exact S.keep (fun x e => by rw [e1] at e; cases e; exact k _ _ e1 (fun v e => by cases e)) (fun b oq xs e => k _ _ e (fun v e => by cases e)) (fun b xs e => k _ _ e (fun v e => by cases e))
  exact ⟨dx, d1, d2, k _ _ a (fun l e => by cases e), k _ _ b (fun l e => by cases e), k _ _ c (fun l e => by cases e), sd e, sd f⟩
theorem StOf.nl {CS C s : Addr} {H H' : Hp} {B : Br} {Pp : Pi} {Qp Qc : Br} (k : NL H H') (h : StOf CS C H s B Pp Qp Qc) : StOf CS C H' s B Pp Qp Qc := by
  obtain ⟨B', P', Qp', Qc', ⟨dx, n, d1, d2, a, b, c, d⟩, r⟩ := h
  exact ⟨B', P', Qp', Qc', ⟨dx, n, d1, d2, k _ _ a (fun l e => by cases e), b.nl k, k _ _ c (fun l e => by cases e), k _ _ d (fun l e => by cases e)⟩, r⟩
theorem NL.dk {H H' : Hp} {x : Addr} {u : List (Key × V)} (k : NL H H') (h : H x = some (.dK u)) : H' x = some (.dK u) := k _ _ h fun l e => by cases e
theorem NL.dt {H H' : Hp} {x : Addr} {u : List (List Key × V)} (k : NL H H') (h : H x = some (.dT u)) : H' x = some (.dT u) := k _ _ h fun l e => by cases e
/-- the stands that came ahead, with their counts -/
def Ah (CS C a : Addr) (B : Br) (Pp : Pi) (Qp : Br) (H : Hp) (ts : List Addr) : Prop := ∀ t ∈ ts, ∃ (s d : Addr) (Qc : Br), H t = some (.tup [.ref s, .ref d]) ∧ H d = some (.dK (bk Qc)) ∧ a ≠ d ∧ StOf CS C H s B Pp Qp Qc
theorem Ah.nl {CS C a : Addr} {B : Br} {Pp : Pi} {Qp : Br} {H H' : Hp} {ts : List Addr} (k : NL H H') (h : Ah CS C a B Pp Qp H ts) : Ah CS C a B Pp Qp H' ts := fun t m => by
  obtain ⟨s, d, Qc, e1, e2, e3, e4⟩ := h t m
  exact ⟨s, d, Qc, k _ _ e1 (fun l e => by cases e), k.dk e2, e3, e4.nl k⟩
/-! ### one number put into a dict -/
def putB (Q : Br) (z : Str) (v : Int) : Br := if z ∈ nms Q then Q.map (fun p => if p.1 = z then (p.1, v) else p) else Q ++ [(z, v)]
theorem putK_putB (Q : Br) (z : Str) (v : Int) : putK (bk Q) (Sum.inr z : Key) (.int v) = bk (putB Q z v) := by
  unfold putB
  by_cases h : z ∈ nms Q
  · rw [if_pos h]
    unfold putK
    have ha : ((bk Q).any fun kv => decide (kv.1 = (Sum.inr z : Key))) = true := by
      obtain ⟨p, hp, e⟩ := List.mem_map.mp h
      exact List.any_eq_true.mpr ⟨(Sum.inr p.1, .int p.2), List.mem_map.mpr ⟨p, hp, rfl⟩, decide_eq_true (by rw [show p.1 = z from e])⟩
    rw [if_pos ha]
    unfold bk
    rw [List.map_map, List.map_map]
    refine List.map_congr_left fun p _ => ?_
    show (if (Sum.inr p.1 : Key) = Sum.inr z then ((Sum.inr p.1 : Key), V.int v) else (Sum.inr p.1, V.int p.2)) = ((Sum.inr (if p.1 = z then (p.1, v) else p).1 : Key), V.int (if p.1 = z then (p.1, v) else p).2)
    by_cases e : p.1 = z
    · rw [if_pos (by rw [e]), if_pos e]
    · rw [if_neg (fun x => e (Sum.inr.inj x)), if_neg e]
  · rw [if_neg h, putK_bk h]
theorem putB_nms (Q : Br) (z : Str) (v : Int) : nms (putB Q z v) = if z ∈ nms Q then nms Q else nms Q ++ [z] := by
  unfold putB
  by_cases h : z ∈ nms Q
  · rw [if_pos h, if_pos h]
    unfold nms
    rw [List.map_map]
    refine List.map_congr_left fun p _ => ?_
    show (if p.1 = z then (p.1, v) else p).1 = p.1
    split <;> rfl
  · rw [if_neg h, if_neg h, nms_append]; rfl
theorem putB_nd {Q : Br} {z : Str} {v : Int} (nd : (nms Q).Nodup) : (nms (putB Q z v)).Nodup := by
  rw [putB_nms]
  by_cases h : z ∈ nms Q
  · rw [if_pos h]; exact nd
  · rw [if_neg h]
    exact List.nodup_append.mpr ⟨nd, by simp, fun x hx y hy e => by
      have e2 : y = z := by simpa using hy
      exact h (by rw [← e2, ← e]; exact hx)⟩
theorem putB_val (Q : Br) (z : Str) (v : Int) (x : Str) : val0 (putB Q z v) x = if x = z then v else val0 Q x := by
  have h := valV_put (bk Q) (Sum.inr z : Key) (Sum.inr x) (.int v)
  rw [putK_putB, valV_bk, valV_bk] at h
  unfold val0
  by_cases e : x = z
  · rw [if_pos e]
    rw [if_pos (by rw [e])] at h
    cases g : getB (putB Q z v) x with
    | none => rw [g] at h; cases h
    | some c =>
      rw [g] at h
      have := Option.some.inj h
      injection this
  · rw [if_neg e]
    rw [if_neg (fun y => e (Sum.inr.inj y))] at h
    cases g : getB (putB Q z v) x with
    | none =>
      rw [g] at h
      cases g2 : getB Q x with
      | none => rfl
      | some c => rw [g2] at h; cases h
    | some c =>
      rw [g] at h
      cases g2 : getB Q x with
      | none => rw [g2] at h; cases h
      | some c2 =>
        rw [g2] at h
        have h2 : V.int c = V.int c2 := Option.some.inj h
        injection h2 with h3
theorem val0_nonneg {Q : Br} (h : ∀ p ∈ Q, 0 ≤ p.2) (x : Str) : 0 ≤ val0 Q x := by
  unfold val0
  cases g : getB Q x with
  | none => exact Int.le_refl _
  | some c => exact h _ (getB_mem g)
/-- what Stand makes of a net and two tables -/
theorem stOf_new {CS C : Addr} {H : Hp} {s : Addr} {B B' : Br} {Pp P' : Pi} {Qp Qc : Br} (SA : StandAt CS C H s B' P' (fill B' Qp) (fill B' Qc)) (good : Good B Pp) (pB : B'.Perm B) (pP : P'.Perm Pp) (so : sortedS (nms B') = true) (np : ∀ p ∈ Qp, 0 ≤ p.2) (nc : ∀ p ∈ Qc, 0 ≤ p.2) :
    StOf CS C H s B Pp Qp Qc := by
  have g' : Good B' P' := good.perm pB.symm pP.symm
  have pm : (nms B').Perm (nms B) := pB.map Prod.fst
  exact ⟨B', P', _, _, SA, g', pB, pP, so, fill_full _ _, fill_full _ _, fun x hx => val0_fill g'.wf.nb (pm.mem_iff.mpr hx), fun x hx => val0_fill g'.wf.nb (pm.mem_iff.mpr hx), fun x _ => ⟨val0_nonneg np x, val0_nonneg nc x⟩⟩
end Nl
end
section
set_option maxHeartbeats 1000000
namespace Nl
open PySem PySem.Spec PyProof.Rows L2 Nt
section
variable {B B' : Br} {Pp P' : Pi} {Qp Qc Qp' Qc' : Br}
theorem water_same (g' : Good B' P') (pB : B'.Perm B) (pP : P'.Perm Pp) (v1 : ∀ x ∈ nms B, val0 Qp' x = val0 Qp x) (v2 : ∀ x ∈ nms B, val0 Qc' x = val0 Qc x) {z : Str} (mz : z ∈ nms B) : waterOf B' P' Qp' Qc' z = waterOf B Pp Qp Qc z := by
  have pm : (nms B').Perm (nms B) := pB.map Prod.fst
  exact waterOf_same pB g'.wf.nb pP (pm.mem_iff.mpr mz) (fun r hr => (g'.wf.rp r hr).1) (fun x hx => v1 x (pm.mem_iff.mp hx)) fun x hx => v2 x (pm.mem_iff.mp hx)
theorem most_same (g' : Good B' P') (pB : B'.Perm B) (pP : P'.Perm Pp) (v1 : ∀ x ∈ nms B, val0 Qp' x = val0 Qp x) (v2 : ∀ x ∈ nms B, val0 Qc' x = val0 Qc x) {z : Str} (mz : z ∈ nms B) : mostOf B' P' Qp' Qc' z = mostOf B Pp Qp Qc z := by
  unfold mostOf
  rw [water_same g' pB pP v1 v2 mz, val0_perm pB g'.wf.nb z]
theorem soak_same (pB : B'.Perm B) (pP : P'.Perm Pp) (v2 : ∀ x ∈ nms B, val0 Qc' x = val0 Qc x) : soakOf B' P' Qc' = soakOf B Pp Qc := by
  unfold soakOf
  rw [perm_sum (pB.map fun p => (p.2 - outW P' p.1) * val0 Qc' p.1)]
  congr 1
  refine List.map_congr_left fun p hp => ?_
  rw [outW_perm pP, v2 p.1 (List.mem_map.mpr ⟨p, hp, rfl⟩)]
end
/-- a stand made anew of a stand's own net and what's poured, one count more often -/
theorem stOf_next {CS C : Addr} {H : Hp} {s : Addr} {B B' : Br} {Pp P' : Pi} {Qp Qc Qp' Qc' Qd Qe Qc2 : Br} {z : Str} {t : Int} (SA : StandAt CS C H s B' P' (fill B' Qd) (fill B' Qe)) (g' : Good B' P') (pB : B'.Perm B) (pP : P'.Perm Pp) (so : sortedS (nms B') = true)
    (v1 : ∀ x ∈ nms B, val0 Qp' x = val0 Qp x) (v2 : ∀ x ∈ nms B, val0 Qc' x = val0 Qc x) (nn : ∀ x ∈ nms B, 0 ≤ val0 Qp x ∧ 0 ≤ val0 Qc x) (t0 : 0 ≤ t)
    (vd : ∀ x ∈ nms B, val0 Qd x = val0 Qp' x) (ve : ∀ x ∈ nms B, val0 Qe x = val0 Qc' x + if x = z then t else 0) (h2 : ∀ x ∈ nms B, val0 Qc2 x = val0 Qc x + if x = z then t else 0) : StOf CS C H s B Pp Qp Qc2 := by
  have pm : (nms B').Perm (nms B) := pB.map Prod.fst
  refine ⟨B', P', _, _, SA, g', pB, pP, so, fill_full _ _, fill_full _ _, fun x hx => ?_, fun x hx => ?_, fun x hx => ⟨(nn x hx).1, ?_⟩⟩
  · rw [val0_fill g'.wf.nb (pm.mem_iff.mpr hx), vd x hx, v1 x hx]
  · rw [val0_fill g'.wf.nb (pm.mem_iff.mpr hx), ve x hx, h2 x hx, v2 x hx]
  · rw [h2 x hx]
    have := (nn x hx).2
    split <;> omega
end Nl
end
section
set_option maxHeartbeats 1000000
namespace Nl
open PySem PySem.Spec PyProof.Rows L2 Nt
/-! ### sums over the ponds -/
theorem sum_add2 {α : Type} (g h : α → Int) : ∀ l : List α, (l.map fun z => g z + h z).sum = (l.map g).sum + (l.map h).sum
  | [] => rfl
  | x :: r => by
    have := sum_add2 g h r
    simp only [List.map_cons, List.sum_cons]
    omega
theorem sum_sub2 {α : Type} (g h : α → Int) : ∀ l : List α, (l.map fun z => g z - h z).sum = (l.map g).sum - (l.map h).sum
  | [] => rfl
  | x :: r => by
    have := sum_sub2 g h r
    simp only [List.map_cons, List.sum_cons]
    omega
theorem sum_zero {α : Type} {g : α → Int} : ∀ {l : List α}, (∀ x ∈ l, g x = 0) → (l.map g).sum = 0
  | [], _ => rfl
  | x :: r, h => by
    rw [List.map_cons, List.sum_cons, h x List.mem_cons_self, sum_zero fun y hy => h y (List.mem_cons_of_mem _ hy)]; rfl
theorem sum_mul {α : Type} (g : α → Int) (c : Int) : ∀ l : List α, (l.map fun z => g z * c).sum = (l.map g).sum * c
  | [] => by simp
  | x :: r => by
    simp only [List.map_cons, List.sum_cons]
    rw [sum_mul g c r, Int.add_mul]
theorem sum_one {x : Str} {c : Int} : ∀ {l : List Str}, l.Nodup → x ∈ l → (l.map fun z => if x = z then c else 0).sum = c
  | [], _, h => (List.not_mem_nil h).elim
  | y :: r, nd, h => by
    obtain ⟨h1, h2⟩ := List.nodup_cons.mp nd
    rw [List.map_cons, List.sum_cons]
    by_cases e : x = y
    · subst e
      rw [if_pos rfl, sum_zero fun z hz => if_neg fun e => h1 (by rw [e]; exact hz)]
      omega
    · rw [if_neg e, sum_one h2 ((List.mem_cons.mp h).resolve_left e)]
      omega
/-- all pairs by one end -/
theorem sum_by {l : List Str} (nd : l.Nodup) (k : (Str × Str) × Int → Str) (f : (Str × Str) × Int → Int) : ∀ {P : Pi}, (∀ p ∈ P, k p ∈ l) → (l.map fun z => ((P.filter fun p => decide (k p = z)).map f).sum).sum = (P.map f).sum
  | [], _ => sum_zero fun _ _ => rfl
  | p :: r, h => by
    have ih := sum_by nd k f (P := r) fun q hq => h q (List.mem_cons_of_mem _ hq)
    have e : (fun z => (((p :: r).filter fun p => decide (k p = z)).map f).sum) = fun z => (if k p = z then f p else 0) + ((r.filter fun p => decide (k p = z)).map f).sum := by
      funext z
      rw [List.filter_cons]
      by_cases c : k p = z
      · rw [if_pos (decide_eq_true c), if_pos c, List.map_cons, List.sum_cons]
      · rw [if_neg (by simpa using c), if_neg c]
        omega
    rw [e, sum_add2, sum_one nd (h p List.mem_cons_self), ih, List.map_cons, List.sum_cons]
theorem val0_cons (p : Str × Int) (r : Br) (z : Str) : val0 (p :: r) z = if p.1 = z then p.2 else val0 r z := by
  unfold val0 getB
  rw [List.find?_cons]
  by_cases e : p.1 = z
  · rw [decide_eq_true e, if_pos e]; rfl
  · rw [decide_eq_false e, if_neg e]
theorem val0_out {Q : Br} {z : Str} (h : z ∉ nms Q) : val0 Q z = 0 := by
  unfold val0
  rw [getB_none h]; rfl
/-- all that a table has, by the ponds -/
theorem sum_tab {l : List Str} (nd : l.Nodup) : ∀ {Q : Br}, (nms Q).Nodup → (∀ p ∈ Q, p.1 ∈ l) → (l.map (val0 Q)).sum = (Q.map (·.2)).sum
  | [], _, _ => sum_zero fun _ _ => rfl
  | p :: r, ndQ, h => by
    obtain ⟨n1, n2⟩ := List.nodup_cons.mp (show (p.1 :: nms r).Nodup from ndQ)
    have e : val0 (p :: r) = fun z => (if p.1 = z then p.2 else 0) + val0 r z := by
      funext z
      rw [val0_cons]
      by_cases c : p.1 = z
      · rw [if_pos c, if_pos c, ← c, val0_out n1]; omega
      · rw [if_neg c, if_neg c]; omega
    rw [e, sum_add2, sum_one nd (h p List.mem_cons_self), sum_tab nd n2 fun q hq => h q (List.mem_cons_of_mem _ hq), List.map_cons, List.sum_cons]
def flowIn (Pp : Pi) (Qc : Br) (z : Str) : Int := ((Pp.filter fun p => decide (p.1.2 = z)).map fun p => p.2 * val0 Qc p.1.1).sum
theorem water_flow (B : Br) (Pp : Pi) (Qp Qc : Br) (z : Str) : waterOf B Pp Qp Qc z = val0 Qp z + flowIn Pp Qc z - val0 B z * val0 Qc z := by
  unfold waterOf flowIn insOf
  rw [List.map_map]; rfl
theorem soak_nms {B : Br} {Pp : Pi} {Qc : Br} (nd : (nms B).Nodup) : soakOf B Pp Qc = ((nms B).map fun z => (val0 B z - outW Pp z) * val0 Qc z).sum := by
  unfold soakOf nms
  rw [List.map_map]
  congr 1
  refine List.map_congr_left fun p hp => ?_
  show _ = (val0 B p.1 - _) * _
  rw [val0_of_mem nd (show (p.1, p.2) ∈ B from hp)]
theorem out_flow (Pp : Pi) (Qc : Br) (z : Str) : outW Pp z * val0 Qc z = ((Pp.filter fun p => decide (p.1.1 = z)).map fun p => p.2 * val0 Qc p.1.1).sum := by
  unfold outW sumOf
  rw [← sum_mul]
  congr 1
  refine List.map_congr_left fun p hp => ?_
  have := of_decide_eq_true (List.mem_filter.mp hp).2
  rw [← this]
/-- nothing is lost -/
theorem all_waters {B : Br} {Pp : Pi} (good : Good B Pp) (Qp Qc : Br) : ((nms B).map (val0 Qp)).sum = ((nms B).map (waterOf B Pp Qp Qc)).sum + soakOf B Pp Qc := by
  have nd := good.wf.nb
  have e1 : waterOf B Pp Qp Qc = fun z => val0 Qp z + flowIn Pp Qc z - val0 B z * val0 Qc z := funext fun z => water_flow B Pp Qp Qc z
  have e2 : (fun z => (val0 B z - outW Pp z) * val0 Qc z) = fun z => val0 B z * val0 Qc z - outW Pp z * val0 Qc z := funext fun z => Int.sub_mul _ _ _
  rw [soak_nms nd, e1, e2, sum_sub2, sum_sub2, sum_add2]
  have f1 : ((nms B).map fun z => flowIn Pp Qc z).sum = (Pp.map fun p => p.2 * val0 Qc p.1.1).sum := sum_by nd (fun p => p.1.2) _ fun p hp => (good.wf.rp p hp).2.1
  have f2 : ((nms B).map fun z => outW Pp z * val0 Qc z).sum = (Pp.map fun p => p.2 * val0 Qc p.1.1).sum := by
    rw [show (fun z => outW Pp z * val0 Qc z) = fun z => ((Pp.filter fun p => decide (p.1.1 = z)).map fun p => p.2 * val0 Qc p.1.1).sum from funext fun z => out_flow Pp Qc z]
    exact sum_by nd (fun p => p.1.1) _ fun p hp => (good.wf.rp p hp).1
  rw [f1, f2]
  omega
/-! ### one pond's spills -/
def wOf (Pp : Pi) (q : Str × Str) : Int := (getP Pp q).getD 0
theorem wOf_cons (p : (Str × Str) × Int) (r : Pi) (q : Str × Str) : wOf (p :: r) q = if p.1 = q then p.2 else wOf r q := by
  unfold wOf getP
  rw [List.find?_cons]
  by_cases e : p.1 = q
  · rw [decide_eq_true e, if_pos e]; rfl
  · rw [decide_eq_false e, if_neg e]
theorem flow_more {z o : Str} {t : Int} : ∀ {P : Pi}, (P.map Prod.fst).Nodup → ((P.filter fun p => decide (p.1.2 = o)).map fun p => p.2 * if p.1.1 = z then t else 0).sum = wOf P (z, o) * t
  | [], _ => by simp [wOf, getP]
  | p :: r, nd => by
    obtain ⟨n1, n2⟩ := List.nodup_cons.mp (show (p.1 :: r.map Prod.fst).Nodup from nd)
    have ih := flow_more (z := z) (o := o) (t := t) n2
    rw [wOf_cons, List.filter_cons]
    by_cases e : p.1 = (z, o)
    · have e1 : p.1.1 = z := by rw [e]
      have e2 : p.1.2 = o := by rw [e]
      have w0 : wOf r (z, o) = 0 := by
        unfold wOf
        rw [getP_none (by rw [← e]; exact n1)]; rfl
      rw [if_pos (decide_eq_true e2), if_pos e, List.map_cons, List.sum_cons, ih, w0, if_pos e1]
      omega
    · rw [if_neg e, ← ih]
      by_cases e2 : p.1.2 = o
      · have e1 : p.1.1 ≠ z := fun h => e (Prod.ext h e2)
        rw [if_pos (decide_eq_true e2), List.map_cons, List.sum_cons, if_neg e1]
        omega
      · rw [if_neg (by simpa using e2)]
theorem water_next {B : Br} {Pp : Pi} {Qp Qc Qc2 : Br} (good : Good B Pp) {z o : Str} {t : Int} (mo : o ∈ nms B) (h : ∀ x ∈ nms B, val0 Qc2 x = val0 Qc x + if x = z then t else 0) :
    waterOf B Pp Qp Qc2 o = waterOf B Pp Qp Qc o + wOf Pp (z, o) * t - val0 B z * t * if z = o then 1 else 0 := by
  rw [water_flow, water_flow, h o mo]
  have e : flowIn Pp Qc2 o = flowIn Pp Qc o + wOf Pp (z, o) * t := by
    unfold flowIn
    rw [← flow_more good.wf.np, ← sum_add2]
    congr 1
    refine List.map_congr_left fun p hp => ?_
    rw [h p.1.1 (good.wf.rp p (List.mem_filter.mp hp).1).1, Int.mul_add]
  rw [e, Int.mul_add]
  by_cases c : o = z
  · rw [if_pos c, if_pos c.symm, c]; omega
  · rw [if_neg c, if_neg (Ne.symm c)]; omega
theorem soak_next {B : Br} {Pp : Pi} {Qc Qc2 : Br} (good : Good B Pp) {z : Str} {t : Int} (mz : z ∈ nms B) (h : ∀ x ∈ nms B, val0 Qc2 x = val0 Qc x + if x = z then t else 0) : soakOf B Pp Qc2 = soakOf B Pp Qc + (val0 B z - outW Pp z) * t := by
  rw [soak_nms good.wf.nb, soak_nms good.wf.nb]
  have e : ((nms B).map fun x => (val0 B x - outW Pp x) * val0 Qc2 x) = (nms B).map fun x => (val0 B x - outW Pp x) * val0 Qc x + if z = x then (val0 B z - outW Pp z) * t else 0 := List.map_congr_left fun x hx => by
    rw [h x hx, Int.mul_add]
    by_cases c : x = z
    · rw [if_pos c, if_pos c.symm, c]
    · rw [if_neg c, if_neg (Ne.symm c)]; omega
  rw [e, sum_add2, sum_one good.wf.nb mz]
theorem lost_next {B : Br} {Pp : Pi} {Qp Qc Qc2 : Br} (good : Good B Pp) {z : Str} {t : Int} (mz : z ∈ nms B) (h : ∀ x ∈ nms B, val0 Qc2 x = val0 Qc x + if x = z then t else 0) :
    ((nms B).map (waterOf B Pp Qp Qc)).sum - ((nms B).map (waterOf B Pp Qp Qc2)).sum = (val0 B z - outW Pp z) * t := by
  have e1 := all_waters good Qp Qc
  have e2 := all_waters good Qp Qc2
  have e3 := soak_next good mz h
  omega
end Nl
end
section
set_option maxHeartbeats 2000000
namespace Nl
open PySem PySem.Spec PyProof.Rows L2 Nt
/-! ### a stand's answers, by the dicts that the law has -/
section
variable {CS C : Addr} {H : Hp} {s : Addr} {B : Br} {Pp : Pi} {Qp Qc : Br} {z : Str} {Q : VK} {E : XK}
theorem StOf.ins (S : StOf CS C H s B Pp Qp Qc) : ∃ dx n d1 d2, H s = some (.ins CS dx (sf n d1 d2)) := by
  obtain ⟨B', P', Qp', Qc', SA, r⟩ := S
  obtain ⟨dx, n, d1, d2, hs, _⟩ := SA.at_
  exact ⟨dx, n, d1, d2, hs⟩
theorem StOf.water (S : StOf CS C H s B Pp Qp Qc) (mz : z ∈ nms B) : ∃ B' P' Qp' Qc', StandAt CS C H s B' P' Qp' Qc' ∧ Good B' P' ∧ Full B' Qp' ∧ Full B' Qc' ∧ z ∈ nms B' ∧ waterOf B' P' Qp' Qc' z = waterOf B Pp Qp Qc z := by
  obtain ⟨B', P', Qp', Qc', SA, g', pB, pP, so, fp, fc, v1, v2, nn⟩ := S
  have pm : (nms B').Perm (nms B) := pB.map Prod.fst
  exact ⟨B', P', Qp', Qc', SA, g', fp, fc, pm.mem_iff.mpr mz, water_same g' pB pP v1 v2 mz⟩
theorem StOf.waters (S : StOf CS C H s B Pp Qp Qc) : ∃ B' P' Qp' Qc', StandAt CS C H s B' P' Qp' Qc' ∧ Good B' P' ∧ Full B' Qp' ∧ Full B' Qc' ∧ (nms B').Perm (nms B) ∧ sortedS (nms B') = true ∧ mapN (nms B') (waterOf B' P' Qp' Qc') = mapN (nms B') (waterOf B Pp Qp Qc) := by
  obtain ⟨B', P', Qp', Qc', SA, g', pB, pP, so, fp, fc, v1, v2, nn⟩ := S
  have pm : (nms B').Perm (nms B) := pB.map Prod.fst
  exact ⟨B', P', Qp', Qc', SA, g', fp, fc, pm, so, List.map_congr_left fun z hz => by rw [water_same g' pB pP v1 v2 (pm.mem_iff.mp hz)]⟩
theorem StOf.counts (S : StOf CS C H s B Pp Qp Qc) : ∃ B' P' Qp' Qc', StandAt CS C H s B' P' Qp' Qc' ∧ (nms Qc').Nodup ∧ Qc'.length ≤ 12 ∧ (nms B').Perm (nms B) ∧ sortedS (nms B') = true ∧ Qc' = mapN (nms B') (val0 Qc) := by
  obtain ⟨B', P', Qp', Qc', SA, g', pB, pP, so, fp, fc, v1, v2, nn⟩ := S
  have pm : (nms B').Perm (nms B) := pB.map Prod.fst
  have nd : (nms Qc').Nodup := by rw [fc.nm]; exact g'.wf.nb
  have ln : Qc'.length ≤ 12 := by
    have : (nms Qc').length = (nms B').length := by rw [fc.nm]
    rw [nms_len, nms_len] at this
    have := g'.wf.lb
    omega
  refine ⟨B', P', Qp', Qc', SA, nd, ln, pm, so, ?_⟩
  rw [← fc.nm]
  unfold mapN nms
  rw [List.map_map]
  conv => lhs; rw [← List.map_id Qc']
  refine List.map_congr_left fun u hu => ?_
  have mu : u.1 ∈ nms B := pm.mem_iff.mp (by rw [← fc.nm]; exact List.mem_map.mpr ⟨u, hu, rfl⟩)
  show u = (u.1, val0 Qc u.1)
  rw [← v2 u.1 mu, val0_of_mem nd (show (u.1, u.2) ∈ Qc' from hu)]
end
/-! ### [E for one in dict] -/
theorem keys_lc {B : Br} {a : Addr} {H : Hp} {σ : L2.St} {te : TE} {ja jv : Nat} {Q : V → Hp → Prop} (val : Str × Int → V) (lb : B.length ≤ 200) (ha : H a = some (.dK (bk B))) (hja : σ[ja]? = some (some (.ref a)))
    (hw : ∀ z : Str, wipe ((wipe σ [jv]).set jv (some (.str z))) [jv] = wipe σ [jv])
    (ht : ∀ (p : Str × Int) (od : Obj) (H2 : Hp) (R : V → Hp → Prop), p ∈ B → Same (upd H a (.frz od (.dK (bk B)))) H2 → (∀ H3, Same H2 H3 → R (val p) H3) → te ((wipe σ [jv]).set jv (some (.str p.1))) H2 R)
    (q : ∀ D H', Same H H' → H D = none → H' D = some (.lst (B.map val)) → Q (.ref D) H') : tLockE (tLc (iKeys (tVar ja)) (gName jv) tYes te [jv]) σ H Q := by
  refine ⟨a, _, ha, trivial, fun od => ?_⟩
  refine ⟨.ref a, hja, a, od, rfl, .inl ⟨_, upd_same, fun D nD => ?_⟩⟩
  have hD0 : D ≠ a := fun e => by subst e; rw [upd_same] at nD; cases nD
  have nDH : H D = none := by rw [upd_ne hD0] at nD; exact nD
  refine lc_it (n := (bk B).length) walk_keys (fun i H1 => H1 D = some (.lst ((B.take i).map val)) ∧ Same (upd H a (.frz od (.dK (bk B)))) H1) ⟨upd_same, same_new nD⟩ (fun i H1 _ h => h.2 a _ upd_same) ?_ ?_
  · rintro i x H1 H2 hi ⟨hD, sm⟩ ⟨rfl, kk, v, hkv, rfl⟩
    obtain ⟨p, hp, rfl, rfl⟩ := bk_at hkv
    have hm : p ∈ B := List.mem_of_getElem? hp
    refine ⟨hw p.1, ht p od H2 _ hm sm fun H3 s3 => ⟨_, s3 D _ hD, ?_, ?_, ?_⟩⟩
    · rw [List.length_map, List.length_take]
      exact small1000 (by omega)
    · rw [upd_same, List.take_add_one, hp, List.map_append]; rfl
    · exact fun b o eb => by
        have nb : b ≠ D := ne_of_none eb nD
        rw [upd_ne nb]; exact s3 b o (sm b o eb)
  · rintro H1 ⟨hD, sm⟩
    obtain ⟨l1, l2⟩ := same_lock ha sm
    refine ⟨l1, q D _ l2 nDH ?_⟩
    rw [upd_ne hD0, hD, bk_len, List.take_length]
/-- what isn't that one is as it was -/
theorem same_off {H H2 : Hp} {a x : Addr} {o u : HO} (sm : Same (upd H a u) H2) (n : x ≠ a) (h : H x = some o) : H2 x = some o := sm x o (by rw [upd_ne n]; exact h)
end Nl
end
section
set_option maxHeartbeats 1000000
namespace Nl
open PySem PySem.Spec PyProof.Rows L2 Nt
section
variable {B : Br} {Pp : Pi} {Qp Qc Qd : Br} {z o : Str} {t i j : Int}
theorem wOf_nonneg (wf : Wf Nm B Pp) (q : Str × Str) : 0 ≤ wOf Pp q := by
  unfold wOf getP
  cases e : Pp.find? fun p => decide (p.1 = q) with
  | none => exact Int.le_refl _
  | some p =>
    have := (wf.rp p (List.mem_of_find?_eq_some e)).2.2.2
    show 0 ≤ p.2
    omega
theorem wOf_self (wf : Wf Nm B Pp) (x : Str) : wOf Pp (x, x) = 0 := by
  unfold wOf
  rw [getP_none fun h => ?_]
  · rfl
  · obtain ⟨p, hp, e⟩ := List.mem_map.mp h
    have := (wf.rp p hp).2.2.1
    rw [show p.1 = (x, x) from e] at this
    exact this rfl
theorem brim_pos (wf : Wf Nm B Pp) (mz : z ∈ nms B) : 1 ≤ val0 B z ∧ val0 B z ≤ 60 := by
  obtain ⟨b, g⟩ := getB_some mz
  have := (wf.rb _ (getB_mem g)).2
  unfold val0
  rw [g]; exact this
/-- counts, told as two ponds' spills more -/
def More2 (B : Br) (Qc Qd : Br) (z o : Str) (i j : Int) : Prop := ∀ x ∈ nms B, val0 Qd x = val0 Qc x + (if x = z then i else 0) + if x = o then j else 0
theorem water_more2 (good : Good B Pp) (zo : z ≠ o) (mz : z ∈ nms B) (h : More2 B Qc Qd z o i j) : waterOf B Pp Qp Qd z = waterOf B Pp Qp Qc z - val0 B z * i + wOf Pp (o, z) * j := by
  have h1 : ∀ x ∈ nms B, val0 (putB Qc z (val0 Qc z + i)) x = val0 Qc x + if x = z then i else 0 := fun x hx => by
    rw [putB_val]
    by_cases e : x = z
    · rw [if_pos e, if_pos e, e]
    · rw [if_neg e, if_neg e]; omega
  have h2 : ∀ x ∈ nms B, val0 Qd x = val0 (putB Qc z (val0 Qc z + i)) x + if x = o then j else 0 := fun x hx => by
    rw [h x hx, h1 x hx]
  rw [water_next good mz h2, water_next good mz h1, wOf_self good.wf, if_pos rfl, if_neg (Ne.symm zo)]
  omega
theorem ediv_add {a b i : Int} (hb : 0 < b) : (a - b * i) / b = a / b - i := by
  rw [show a - b * i = a + b * (-i) by rw [Int.mul_neg]; omega, Int.add_mul_ediv_left _ _ (by omega)]
  omega
/-- a pond that spilled i times can spill at least so many times less -/
theorem most_ge (good : Good B Pp) (zo : z ≠ o) (mz : z ∈ nms B) (i0 : 0 ≤ i) (j0 : 0 ≤ j) (h : More2 B Qc Qd z o i j) (hi : i ≤ mostOf B Pp Qp Qc z) : mostOf B Pp Qp Qc z - i ≤ mostOf B Pp Qp Qd z := by
  obtain ⟨b1, b2⟩ := brim_pos good.wf mz
  have e := water_more2 (Qp := Qp) good zo mz h
  have w0 := Int.mul_nonneg (wOf_nonneg good.wf (o, z)) j0
  have d1 : (waterOf B Pp Qp Qc z - val0 B z * i) / val0 B z ≤ waterOf B Pp Qp Qd z / val0 B z := Int.ediv_le_ediv (by omega) (by omega)
  rw [ediv_add (by omega)] at d1
  unfold mostOf at hi ⊢
  split at hi <;> split <;> split <;> omega
theorem most_self (good : Good B Pp) (mz : z ∈ nms B) (h : ∀ x ∈ nms B, val0 Qd x = val0 Qc x + if x = z then t else 0) (hi : t ≤ mostOf B Pp Qp Qc z) (t0 : 0 ≤ t) : mostOf B Pp Qp Qd z = mostOf B Pp Qp Qc z - t := by
  obtain ⟨b1, b2⟩ := brim_pos good.wf mz
  have e := water_next (Qp := Qp) good mz h
  rw [wOf_self good.wf, if_pos rfl] at e
  have e2 : waterOf B Pp Qp Qd z = waterOf B Pp Qp Qc z - val0 B z * t := by omega
  have d1 : waterOf B Pp Qp Qd z / val0 B z = waterOf B Pp Qp Qc z / val0 B z - t := by rw [e2, ediv_add (by omega)]
  unfold mostOf at hi ⊢
  rw [d1]
  split at hi
  · rename_i c
    rw [if_pos c]
    split <;> omega
  · rename_i c
    rw [if_neg c]
    have : t = 0 := by omega
    subst this
    split <;> omega
theorem water_mono (good : Good B Pp) (zo : o ≠ z) (mo : o ∈ nms B) (t0 : 0 ≤ t) (h : ∀ x ∈ nms B, val0 Qd x = val0 Qc x + if x = z then t else 0) : waterOf B Pp Qp Qc o ≤ waterOf B Pp Qp Qd o := by
  rw [water_next good mo h, if_neg (Ne.symm zo)]
  have := Int.mul_nonneg (wOf_nonneg good.wf (z, o)) t0
  omega
theorem most_mono (good : Good B Pp) (zo : o ≠ z) (mo : o ∈ nms B) (t0 : 0 ≤ t) (h : ∀ x ∈ nms B, val0 Qd x = val0 Qc x + if x = z then t else 0) : mostOf B Pp Qp Qc o ≤ mostOf B Pp Qp Qd o := by
  obtain ⟨b1, b2⟩ := brim_pos good.wf mo
  have d1 : waterOf B Pp Qp Qc o / val0 B o ≤ waterOf B Pp Qp Qd o / val0 B o := Int.ediv_le_ediv (by omega) (water_mono good zo mo t0 h)
  unfold mostOf
  split <;> split <;> omega
/-- what may come into a pond -/
theorem flow_le (good : Good B Pp) (mz : z ∈ nms B) {M : Int} (M0 : 0 ≤ M) (hM : ∀ x ∈ nms B, val0 Qc x ≤ M) : flowIn Pp Qc z ≤ 60 * M := by
  have fit := fun p hp => (good.fit p hp).2
  obtain ⟨b, g⟩ := getB_some mz
  have f1 : inW Pp z ≤ b := fit _ (getB_mem g)
  have r : b ≤ 60 := (good.wf.rb _ (getB_mem g)).2.2
  have step : flowIn Pp Qc z ≤ inW Pp z * M := by
    unfold flowIn inW sumOf
    have rp := good.wf.rp
    clear fit f1 g mz good r
    have : ∀ S : Pi, (∀ p ∈ S, p.1.1 ∈ nms B ∧ 1 ≤ p.2) → ((S.filter fun p => decide (p.1.2 = z)).map fun p => p.2 * val0 Qc p.1.1).sum ≤ ((S.filter fun p => decide (p.1.2 = z)).map (·.2)).sum * M := by
      intro S
      induction S with
      | nil => intro _; simp
      | cons p r ih =>
        intro h
        have ih' := ih fun q hq => h q (List.mem_cons_of_mem _ hq)
        obtain ⟨h1, h2⟩ := h p List.mem_cons_self
        rw [List.filter_cons]
        split
        · rw [List.map_cons, List.map_cons, List.sum_cons, List.sum_cons, Int.add_mul]
          have := Int.mul_le_mul_of_nonneg_left (hM p.1.1 h1) (show 0 ≤ p.2 by omega)
          omega
        · exact ih'
    exact this Pp fun p hp => ⟨(rp p hp).1, (rp p hp).2.2.2.1⟩
  have : inW Pp z ≤ 60 := by omega
  have := Int.mul_le_mul_of_nonneg_right this M0
  omega
theorem most_le (good : Good B Pp) (mz : z ∈ nms B) {M N : Int} (M0 : 0 ≤ M) (hM : ∀ x ∈ nms B, 0 ≤ val0 Qc x ∧ val0 Qc x ≤ M) (hN : val0 Qp z ≤ N) (N0 : 0 ≤ N) : mostOf B Pp Qp Qc z ≤ N + 60 * M := by
  obtain ⟨b1, b2⟩ := brim_pos good.wf mz
  have f := flow_le (Qc := Qc) good mz M0 fun x hx => (hM x hx).2
  have w : waterOf B Pp Qp Qc z ≤ N + 60 * M := by
    rw [water_flow]
    have := Int.mul_nonneg (show 0 ≤ val0 B z by omega) (hM z mz).1
    omega
  unfold mostOf
  split
  · rename_i c
    have : waterOf B Pp Qp Qc z / val0 B z ≤ N + 60 * M := by
      refine Int.le_trans (Int.ediv_le_ediv (by omega) w) ?_
      exact Int.ediv_le_self _ (by omega)
    omega
  · omega
theorem most_pos (wf : Wf Nm B Pp) (mz : z ∈ nms B) (h : val0 B z ≤ waterOf B Pp Qp Qc z) : 1 ≤ mostOf B Pp Qp Qc z := by
  obtain ⟨b1, b2⟩ := brim_pos wf mz
  have : 1 ≤ waterOf B Pp Qp Qc z / val0 B z := by
    have := Int.ediv_le_ediv (show 0 < val0 B z by omega) h
    rw [Int.ediv_self (by omega)] at this
    exact this
  unfold mostOf
  rw [if_pos (by omega)]
  exact this
theorem flow_nonneg (wf : Wf Nm B Pp) (h : ∀ x ∈ nms B, 0 ≤ val0 Qc x) : 0 ≤ flowIn Pp Qc z := by
  unfold flowIn
  have : ∀ S : Pi, (∀ p ∈ S, p.1.1 ∈ nms B ∧ 1 ≤ p.2) → 0 ≤ ((S.filter fun p => decide (p.1.2 = z)).map fun p => p.2 * val0 Qc p.1.1).sum := by
    intro S
    induction S with
    | nil => intro _; simp
    | cons p r ih =>
      intro hs
      have ih' := ih fun q hq => hs q (List.mem_cons_of_mem _ hq)
      obtain ⟨h1, h2⟩ := hs p List.mem_cons_self
      rw [List.filter_cons]
      split
      · rw [List.map_cons, List.sum_cons]
        have := Int.mul_nonneg (show 0 ≤ p.2 by omega) (h p.1.1 h1)
        omega
      · exact ih'
  exact this Pp fun p hp => ⟨(wf.rp p hp).1, (wf.rp p hp).2.2.2.1⟩
end
/-- one pond more, without pipes -/
theorem Good.grow {B : Br} {Pp : Pi} {z : Str} {b : Int} (g : Good B Pp) (lb : B.length < 12) (nz : Nm z) (fz : z ∉ nms B) (b1 : 1 ≤ b) (b2 : b ≤ 60) : Good (B ++ [(z, b)]) Pp := by
  have wf := g.wf
  have o0 : outW Pp z = 0 := by
    unfold outW sumOf
    rw [List.filter_eq_nil_iff.mpr fun p hp => by
      have := (wf.rp p hp).1
      simp only [decide_eq_true_eq]
      exact fun e => fz (by rw [← e]; exact this)]
    rfl
  have i0 : inW Pp z = 0 := by
    unfold inW sumOf
    rw [List.filter_eq_nil_iff.mpr fun p hp => by
      have := (wf.rp p hp).2.1
      simp only [decide_eq_true_eq]
      exact fun e => fz (by rw [← e]; exact this)]
    rfl
  have opn : ∀ x, Opn B Pp x → Opn (B ++ [(z, b)]) Pp x := fun x h => by
    induction h with
    | soak h1 h2 => exact .soak (List.mem_append_left _ h1) h2
    | step h1 _ ih => exact .step h1 ih
  refine ⟨⟨?_, ?_, ?_, wf.np, wf.lp, ?_⟩, ?_, ?_⟩
  · rw [nms_append]
    refine List.nodup_append.mpr ⟨wf.nb, List.nodup_cons.mpr ⟨List.not_mem_nil, .nil⟩, fun u mu t mt => ?_⟩
    have et : t = z := by simpa [nms] using mt
    exact fun e => fz (by rw [← et, ← e]; exact mu)
  · rw [List.length_append]
    show B.length + 1 ≤ 12
    omega
  · intro p hp
    rcases List.mem_append.mp hp with h | h
    · exact wf.rb p h
    · have : p = (z, b) := by simpa using h
      subst this
      exact ⟨nz, b1, b2⟩
  · intro p hp
    obtain ⟨h1, h2, r⟩ := wf.rp p hp
    rw [nms_append]
    exact ⟨List.mem_append_left _ h1, List.mem_append_left _ h2, r⟩
  · intro p hp
    rcases List.mem_append.mp hp with h | h
    · exact g.fit p h
    · have : p = (z, b) := by simpa using h
      subst this
      show outW Pp z ≤ b ∧ inW Pp z ≤ b
      omega
  · intro x hx
    rw [nms_append] at hx
    rcases List.mem_append.mp hx with h | h
    · exact opn x (g.op x h)
    · have : x = z := by simpa [nms] using h
      subst this
      exact .soak (List.mem_append_right _ (List.mem_singleton.mpr rfl)) (by rw [o0]; omega)
end Nl
end
section
set_option maxHeartbeats 1000000
namespace Nl
open PySem PySem.Spec PyProof.Rows L2 Nt
theorem putB_more {B Qd : Br} {z : Str} {t : Int} : ∀ x ∈ nms B, val0 (putB Qd z (val0 Qd z + t)) x = val0 Qd x + if x = z then t else 0 := fun x hx => by
  rw [putB_val]
  by_cases e : x = z
  · rw [if_pos e, if_pos e, e]
  · rw [if_neg e, if_neg e]; omega
section
variable {P : Program} {w : World} {K : PySem.W.Frag} {mg : Str → Option Value} {base : Heap}
/-- dict([(one, N) for one in dict]) -/
theorem pairs_lc {K : PySem.W.Frag} {B : Br} {a : Addr} {H : Hp} {σ : L2.St} {te : TE} {ja jv : Nat} {Q : V → Hp → Prop} (val : Str → Int) (lb : B.length ≤ 12) (ha : H a = some (.dK (bk B))) (hja : σ[ja]? = some (some (.ref a)))
    (hv : ∀ z : Str, ((wipe σ [jv]).set jv (some (.str z)))[jv]? = some (some (V.str z))) (hw : ∀ z : Str, wipe ((wipe σ [jv]).set jv (some (.str z))) [jv] = wipe σ [jv])
    (ht : ∀ (p : Str × Int) (od : Obj) (H2 : Hp) (R : V → Hp → Prop), p ∈ B → Same (upd H a (.frz od (.dK (bk B)))) H2 → (∀ H3, Same H2 H3 → R (.int (val p.1)) H3) → te ((wipe σ [jv]).set jv (some (.str p.1))) H2 R)
    (q : ∀ D as H', Same H H' → H D = none → H' D = some (.lst (as.map V.ref)) → PairsAt H' as (mapN (nms B) val) → Q (.ref D) H') : tLockE (tLc (iKeys (tVar ja)) (gName jv) tYes (tTup (tCons (tVar jv) (tCons te tNil))) [jv]) σ H Q := by
  refine ⟨a, _, ha, trivial, fun od => ?_⟩
  refine ⟨.ref a, hja, a, od, rfl, .inl ⟨_, upd_same, fun D nD => ?_⟩⟩
  have hDa : D ≠ a := fun e => by subst e; rw [upd_same] at nD; cases nD
  have nDH : H D = none := by rw [upd_ne hDa] at nD; exact nD
  refine lc_it (n := (bk B).length) walk_keys (fun i H9 => ∃ as, H9 D = some (.lst (as.map V.ref)) ∧ PairsAt H9 as (mapN (nms (B.take i)) val) ∧ Same (upd H a (.frz od (.dK (bk B)))) H9)
      ⟨[], upd_same, ⟨rfl, fun i p e => by simp [mapN, nms] at e⟩, same_new nD⟩ (fun i H9 _ ⟨_, _, _, h⟩ => h a _ upd_same) ?_ ?_
  · rintro i x H9 H9' hi ⟨as, hD9, hP9, sm⟩ ⟨rfl, kk, v, hkv, rfl⟩
    obtain ⟨p, hp, rfl, rfl⟩ := bk_at hkv
    have lA : as.length ≤ 12 := by
      rw [hP9.1]
      unfold mapN
      rw [List.length_map, nms_len, List.length_take]
      omega
    refine ⟨hw p.1, .str p.1, hv p.1, ht p od H9' _ (List.mem_of_getElem? hp) sm fun H10 s10 => ?_⟩
    refine ⟨line1000 (by show 2 ≤ 1000; decide), fun t nt => ?_⟩
    have hD10 := s10 D _ hD9
    have nDt : D ≠ t := ne_of_none hD10 nt
    refine ⟨_, (by rw [upd_ne nDt]; exact hD10), (by rw [List.length_map]; exact small1000 (by omega)), as ++ [t], ?_, ?_, ?_⟩
    · rw [upd_same, List.map_append]; rfl
    · have e : mapN (nms (B.take (i + 1))) val = mapN (nms (B.take i)) val ++ [(p.1, val p.1)] := by
        rw [List.take_add_one, hp, nms_append]
        unfold mapN
        rw [List.map_append]; rfl
      rw [e]
      refine PairsAt.push (p := (p.1, val p.1)) (hP9.same s10) (fun b xs eb => ?_) (by rw [upd_ne (Ne.symm nDt), upd_same])
      have nb : b ≠ D := fun z => by subst z; rw [hD10] at eb; cases eb
      rw [upd_ne nb, upd_ne (ne_of_none eb nt)]; exact eb
    · exact fun c o ec => by
        have nb : c ≠ D := ne_of_none ec nD
        have e9 := s10 c o (sm c o ec)
        rw [upd_ne nb, upd_ne (ne_of_none e9 nt)]; exact e9
  · rintro H9 ⟨as, hD9, hP9, sm9⟩
    obtain ⟨l1, l2⟩ := same_lock ha sm9
    rw [bk_len, List.take_length] at hP9
    refine ⟨l1, q D as _ l2 nDH (by rw [upd_ne hDa]; exact hD9) ⟨hP9.1, fun i p e => ?_⟩⟩
    obtain ⟨t, e1, e2⟩ := hP9.2 i p e
    refine ⟨t, e1, ?_⟩
    have nt : t ≠ a := fun z => by subst z; rw [l1] at e2; cases e2
    rw [upd_ne nt]; exact e2
/-- two dicts of the same numbers -/
theorem dicts_alike {B : Br} {ys : List Str} {f : Str → Int} (nd : (nms B).Nodup) (pm : ys.Perm (nms B)) : (bk (mapN ys f)).length = (bk (mapN (nms B) f)).length ∧ ∀ p ∈ bk (mapN ys f), valV (bk (mapN (nms B) f)) p.1 = some p.2 ∧ flatB p.2 = true := by
  refine ⟨?_, fun p hp => ?_⟩
  · rw [bk_len, bk_len]
    unfold mapN
    rw [List.length_map, List.length_map, pm.length_eq]
  · obtain ⟨q, hq, e⟩ := List.mem_map.mp hp
    obtain ⟨x, hx, e2⟩ := List.mem_map.mp hq
    subst e
    subst e2
    refine ⟨?_, rfl⟩
    show valV (bk (mapN (nms B) f)) (Sum.inr x : Key) = some (.int (f x))
    rw [valV_bk, show getB (mapN (nms B) f) x = some (f x) from getB_map nd (pm.mem_iff.mp hx)]; rfl
end
end Nl
end
section
set_option maxHeartbeats 4000000
namespace Nl
open PySem PySem.Spec PyProof.Rows L2 Nt
/-! ### nets told by links between places of a list of ponds -/
theorem sumOf_all {f : (Str × Str) × Int → Bool} {w : Int} : ∀ {P : Pi}, (∀ p ∈ P, p.2 = w) → sumOf f P = w * ((P.filter f).length : Int)
  | [], _ => by unfold sumOf; simp
  | p :: P, h => by
    have ih := sumOf_all (f := f) (P := P) fun q hq => h q (List.mem_cons_of_mem _ hq)
    have h1 := h p List.mem_cons_self
    unfold sumOf at ih ⊢
    rw [List.filter_cons]
    split
    · rw [List.map_cons, List.sum_cons, ih, List.length_cons, h1, Int.natCast_add, Int.mul_add]
      show w + _ = _ + w * ((1 : Nat) : Int)
      omega
    · exact ih
theorem out_le {P : Pi} {w : Int} (w0 : 0 ≤ w) (nd : (P.map Prod.fst).Nodup) (hw : ∀ p ∈ P, p.2 = w) {x : Str} (T : List Str) (h : ∀ p ∈ P, p.1.1 = x → p.1.2 ∈ T) : outW P x ≤ w * (T.length : Int) := by
  unfold outW
  rw [sumOf_all hw]
  refine Int.mul_le_mul_of_nonneg_left ?_ w0
  have h1 : ((P.filter fun p => decide (p.1.1 = x)).map fun p => p.1.2).Nodup := by
    have h2 : ((P.filter fun p => decide (p.1.1 = x)).map Prod.fst).Nodup := nd.sublist (List.filter_sublist.map _)
    show (List.map ((fun q : Str × Str => q.2) ∘ Prod.fst) _).Nodup
    rw [← List.map_map]
    refine List.Pairwise.map (R := fun a b : Str × Str => a ≠ b ∧ a.1 = x ∧ b.1 = x) (fun q : Str × Str => q.2) (fun a b ⟨h3, h4, h5⟩ e => h3 (Prod.ext (h4.trans h5.symm) e)) ?_
    refine (List.Pairwise.imp_of_mem (R := fun a b => a ≠ b) (fun {a b} ha hb hab => ⟨hab, ?_, ?_⟩) h2)
    · obtain ⟨q, hq, rfl⟩ := List.mem_map.mp ha
      exact of_decide_eq_true (List.mem_filter.mp hq).2
    · obtain ⟨q, hq, rfl⟩ := List.mem_map.mp hb
      exact of_decide_eq_true (List.mem_filter.mp hq).2
  have h2 := len_le_of_sub h1 (m := T) fun y hy => by
    obtain ⟨q, hq, rfl⟩ := List.mem_map.mp hy
    obtain ⟨q1, q2⟩ := List.mem_filter.mp hq
    exact h q q1 (of_decide_eq_true q2)
  rw [List.length_map] at h2
  exact Int.ofNat_le.mpr h2
theorem in_le {P : Pi} {w : Int} (w0 : 0 ≤ w) (nd : (P.map Prod.fst).Nodup) (hw : ∀ p ∈ P, p.2 = w) {x : Str} (T : List Str) (h : ∀ p ∈ P, p.1.2 = x → p.1.1 ∈ T) : inW P x ≤ w * (T.length : Int) := by
  unfold inW
  rw [sumOf_all hw]
  refine Int.mul_le_mul_of_nonneg_left ?_ w0
  have h1 : ((P.filter fun p => decide (p.1.2 = x)).map fun p => p.1.1).Nodup := by
    have h2 : ((P.filter fun p => decide (p.1.2 = x)).map Prod.fst).Nodup := nd.sublist (List.filter_sublist.map _)
    show (List.map ((fun q : Str × Str => q.1) ∘ Prod.fst) _).Nodup
    rw [← List.map_map]
    refine List.Pairwise.map (R := fun a b : Str × Str => a ≠ b ∧ a.2 = x ∧ b.2 = x) (fun q : Str × Str => q.1) (fun a b ⟨h3, h4, h5⟩ e => h3 (Prod.ext e (h4.trans h5.symm))) ?_
    refine (List.Pairwise.imp_of_mem (R := fun a b => a ≠ b) (fun {a b} ha hb hab => ⟨hab, ?_, ?_⟩) h2)
    · obtain ⟨q, hq, rfl⟩ := List.mem_map.mp ha
      exact of_decide_eq_true (List.mem_filter.mp hq).2
    · obtain ⟨q, hq, rfl⟩ := List.mem_map.mp hb
      exact of_decide_eq_true (List.mem_filter.mp hq).2
  have h2 := len_le_of_sub h1 (m := T) fun y hy => by
    obtain ⟨q, hq, rfl⟩ := List.mem_map.mp hy
    obtain ⟨q1, q2⟩ := List.mem_filter.mp hq
    exact h q q1 (of_decide_eq_true q2)
  rw [List.length_map] at h2
  exact Int.ofNat_le.mpr h2
structure Lnk (ns : List Str) (w : Int) (R : Nat → Nat → Prop) (P : Pi) : Prop where
  nd : (P.map Prod.fst).Nodup
  at_ : ∀ p ∈ P, p.2 = w ∧ ∃ i j, ns[i]? = some p.1.1 ∧ ns[j]? = some p.1.2 ∧ R i j
  on : ∀ i j x y, ns[i]? = some x → ns[j]? = some y → R i j → ((x, y), w) ∈ P
theorem nd_ix {ns : List Str} (nd : ns.Nodup) {i j : Nat} {x : Str} (hi : ns[i]? = some x) (hj : ns[j]? = some x) : i = j := by
  exact (List.getElem?_inj (List.getElem?_eq_some_iff.mp hi).1 nd).mp (hi.trans hj.symm)
theorem Lnk.mono {ns : List Str} {w : Int} {R S : Nat → Nat → Prop} {P : Pi} (L : Lnk ns w R P) (h : ∀ i j, i < ns.length → j < ns.length → (R i j ↔ S i j)) : Lnk ns w S P where
  nd := L.nd
  at_ := fun p hp => by
    obtain ⟨h1, i, j, h2, h3, h4⟩ := L.at_ p hp
    exact ⟨h1, i, j, h2, h3, (h i j (List.getElem?_eq_some_iff.mp h2).1 (List.getElem?_eq_some_iff.mp h3).1).mp h4⟩
  on := fun i j x y hx hy r => L.on i j x y hx hy ((h i j (List.getElem?_eq_some_iff.mp hx).1 (List.getElem?_eq_some_iff.mp hy).1).mpr r)
theorem Lnk.nil (ns : List Str) (w : Int) : Lnk ns w (fun _ _ => False) [] where
  nd := List.nodup_nil
  at_ := fun p hp => absurd hp List.not_mem_nil
  on := fun i j x y _ _ r => r.elim
/-- a key that is not there yet -/
theorem Lnk.fresh {ns : List Str} {w : Int} {R : Nat → Nat → Prop} {P : Pi} (L : Lnk ns w R P) (nd : ns.Nodup) {i j : Nat} {x y : Str} (hx : ns[i]? = some x) (hy : ns[j]? = some y) (no : ¬ R i j) : (x, y) ∉ P.map Prod.fst := fun m => by
  obtain ⟨p, hp, e⟩ := List.mem_map.mp m
  obtain ⟨_, i', j', h1, h2, r⟩ := L.at_ p hp
  rw [e] at h1 h2
  rw [nd_ix nd h1 hx, nd_ix nd h2 hy] at r
  exact no r
theorem Lnk.add {ns : List Str} {w : Int} {R : Nat → Nat → Prop} {P : Pi} (L : Lnk ns w R P) (nd : ns.Nodup) {i j : Nat} {x y : Str} (hx : ns[i]? = some x) (hy : ns[j]? = some y) (no : ¬ R i j) : Lnk ns w (fun a b => R a b ∨ (a = i ∧ b = j)) (P ++ [((x, y), w)]) where
  nd := by
    rw [List.map_append, List.nodup_append]
    refine ⟨L.nd, by simp, fun a ha b hb e => ?_⟩
    have : b = (x, y) := List.mem_singleton.mp hb
    rw [this] at e
    rw [e] at ha
    exact L.fresh nd hx hy no ha
  at_ := fun p hp => by
    rcases List.mem_append.mp hp with h | h
    · obtain ⟨h1, a, b, h2, h3, r⟩ := L.at_ p h
      exact ⟨h1, a, b, h2, h3, .inl r⟩
    · rw [List.mem_singleton.mp h]
      exact ⟨rfl, i, j, hx, hy, .inr ⟨rfl, rfl⟩⟩
  on := fun a b x' y' ha hb r => by
    rcases r with r | ⟨rfl, rfl⟩
    · exact List.mem_append_left _ (L.on a b x' y' ha hb r)
    · rw [hx] at ha
      rw [hy] at hb
      cases ha
      cases hb
      exact List.mem_append_right _ List.mem_cons_self
theorem Lnk.good {ns : List Str} {w b : Int} {R : Nat → Nat → Prop} {P : Pi} (L : Lnk ns w R P) (nd : ns.Nodup) (nm : ∀ z ∈ ns, Nm z) (l12 : ns.length ≤ 12) (w1 : 1 ≤ w) (w60 : w ≤ 60) (b1 : 1 ≤ b) (b60 : b ≤ 60) (lp : P.length ≤ 200) (tl sl : Nat → List Nat) (ht : ∀ i j, R i j → j ∈ tl i ∧ i ∈ sl j ∧ i ≠ j)
    (lt : ∀ i, w * ((tl i).length : Int) ≤ b) (ls : ∀ j, w * ((sl j).length : Int) ≤ b) (op : ∀ (i : Nat) (x : Str), ns[i]? = some x → Opn (mapN ns fun _ => b) P x) : Good (mapN ns fun _ => b) P := by
  have en : nms (mapN ns fun _ => b) = ns := by unfold mapN; rw [nms_map]
  have ix : ∀ {z : Str}, z ∈ ns → ∃ i, ns[i]? = some z := fun {z} hz => List.mem_iff_getElem?.mp hz
  have bound : ∀ (f : Nat → List Nat) (i : Nat), w * ((f i).length : Int) ≤ b → w * ((((f i).filterMap fun j => ns[j]?).length : Nat) : Int) ≤ b := fun f i h =>
    Int.le_trans (Int.mul_le_mul_of_nonneg_left (Int.ofNat_le.mpr (List.length_filterMap_le _ _)) (by omega)) h
  refine ⟨⟨by rw [en]; exact nd, by unfold mapN; rw [List.length_map]; exact l12, fun p hp => ?_, L.nd, lp, fun p hp => ?_⟩, fun p hp => ?_, fun x hx => ?_⟩
  · obtain ⟨z, hz, rfl⟩ := List.mem_map.mp hp
    exact ⟨nm z hz, b1, b60⟩
  · obtain ⟨h1, i, j, h2, h3, r⟩ := L.at_ p hp
    obtain ⟨t1, t2, t3⟩ := ht i j r
    rw [en, h1]
    refine ⟨List.mem_of_getElem? h2, List.mem_of_getElem? h3, fun e => t3 (nd_ix nd h2 (by rw [e]; exact h3)), w1, w60⟩
  · obtain ⟨z, hz, rfl⟩ := List.mem_map.mp hp
    obtain ⟨k, hk⟩ := ix hz
    constructor
    · refine Int.le_trans (out_le (by omega) L.nd (fun p hp => (L.at_ p hp).1) ((tl k).filterMap fun j => ns[j]?) fun p hp e => ?_) (bound tl k (lt k))
      obtain ⟨h1, i, j, h2, h3, r⟩ := L.at_ p hp
      have : i = k := nd_ix nd h2 (by rw [e]; exact hk)
      subst this
      exact List.mem_filterMap.mpr ⟨j, (ht _ _ r).1, h3⟩
    · refine Int.le_trans (in_le (by omega) L.nd (fun p hp => (L.at_ p hp).1) ((sl k).filterMap fun j => ns[j]?) fun p hp e => ?_) (bound sl k (ls k))
      obtain ⟨h1, i, j, h2, h3, r⟩ := L.at_ p hp
      have : j = k := nd_ix nd h3 (by rw [e]; exact hk)
      subst this
      exact List.mem_filterMap.mpr ⟨i, (ht _ _ r).2.1, h2⟩
  · rw [en] at hx
    obtain ⟨i, hi⟩ := ix hx
    exact op i x hi
/-- a pond that leads nowhere soaks -/
theorem Lnk.soak {ns : List Str} {w b : Int} {R : Nat → Nat → Prop} {P : Pi} (L : Lnk ns w R P) (nd : ns.Nodup) (w1 : 1 ≤ w) (b1 : 1 ≤ b) {i : Nat} {x : Str} (hx : ns[i]? = some x) (no : ∀ j, ¬ R i j) : Opn (mapN ns fun _ => b) P x := by
  refine .soak (b := b) (List.mem_map.mpr ⟨x, List.mem_of_getElem? hx, rfl⟩) ?_
  have := out_le (x := x) (by omega) L.nd (fun p hp => (L.at_ p hp).1) [] fun p hp e => by
    obtain ⟨h1, a, j, h2, h3, r⟩ := L.at_ p hp
    rw [nd_ix nd h2 (by rw [e]; exact hx)] at r
    exact (no j r).elim
  have h0 : w * (([] : List Str).length : Int) = 0 := by simp
  rw [h0] at this
  omega
/-- each leads to the one ahead of it, or nowhere -/
theorem chain_good {ns : List Str} {R : Nat → Nat → Prop} {P : Pi} (L : Lnk ns 60 R P) (nd : ns.Nodup) (nm : ∀ z ∈ ns, Nm z) (l12 : ns.length ≤ 12) (lp : P.length ≤ 200) (hR : ∀ i j, R i j → i = j + 1) : Good (mapN ns fun _ => 60) P := by
  refine L.good nd nm l12 (by decide) (by decide) (by decide) (by decide) lp (fun i => [i - 1]) (fun j => [j + 1]) (fun i j r => ?_) (fun i => (by show (60 : Int) * ((1 : Nat) : Int) ≤ 60; decide)) (fun i => (by show (60 : Int) * ((1 : Nat) : Int) ≤ 60; decide)) fun i => ?_
  · have := hR i j r
    subst this
    exact ⟨List.mem_singleton.mpr rfl, List.mem_singleton.mpr rfl, by omega⟩
  · induction i with
    | zero => exact fun x hx => L.soak nd (by decide) (by decide) hx fun j r => by have := hR _ _ r; omega
    | succ i ih =>
      intro x hx
      by_cases c : R (i + 1) i
      · obtain ⟨y, hy⟩ : ∃ y, ns[i]? = some y := by
          have := (List.getElem?_eq_some_iff.mp hx).1
          exact ⟨_, List.getElem?_eq_getElem (by omega)⟩
        exact .step (L.on _ _ x y hx hy c) (ih y hy)
      · exact L.soak nd (by decide) (by decide) hx fun j r => by
          have := hR _ _ r
          have : j = i := by omega
          subst this
          exact c r
def Lay (i j : Nat) : Prop := i < 10 ∧ j / 2 = i / 2 + 1
/-- layers of two, each leading to both of the next -/
theorem layers_good {ns : List Str} {P : Pi} (L : Lnk ns 1 Lay P) (nd : ns.Nodup) (nm : ∀ z ∈ ns, Nm z) (l12 : ns.length = 12) (lp : P.length ≤ 200) : Good (mapN ns fun _ => 2) P := by
  refine L.good nd nm (by omega) (by decide) (by decide) (by decide) (by decide) lp (fun i => [i / 2 * 2 + 2, i / 2 * 2 + 3]) (fun j => [j / 2 * 2 - 2, j / 2 * 2 - 1]) (fun i j r => ?_) (fun i => (by show (1 : Int) * ((2 : Nat) : Int) ≤ 2; decide)) (fun i => (by show (1 : Int) * ((2 : Nat) : Int) ≤ 2; decide)) ?_
  · obtain ⟨h1, h2⟩ := r
    have : j = i / 2 * 2 + 2 ∨ j = i / 2 * 2 + 3 := by omega
    have : i = j / 2 * 2 - 2 ∨ i = j / 2 * 2 - 1 := by omega
    simp only [List.mem_cons, List.not_mem_nil, or_false]
    refine ⟨by assumption, by assumption, by omega⟩
  · have key : ∀ n i : Nat, 12 ≤ i + n → ∀ x, ns[i]? = some x → Opn (mapN ns fun _ => 2) P x := fun n => by
      induction n with
      | zero =>
        intro i hi x hx
        have := (List.getElem?_eq_some_iff.mp hx).1
        omega
      | succ n ih =>
        intro i hi x hx
        by_cases c : i < 10
        · obtain ⟨y, hy⟩ : ∃ y, ns[i / 2 * 2 + 2]? = some y := ⟨_, List.getElem?_eq_getElem (by omega)⟩
          exact .step (L.on _ _ x y hx hy ⟨c, by omega⟩) (ih _ (by omega) y hy)
        · exact L.soak nd (by decide) (by decide) hx fun j r => c r.1
    exact fun i x hx => key 12 i (by omega) x hx
theorem bk_keysN (B : Br) : (bk B).map (·.1) = (nms B).map Sum.inr := by
  unfold bk nms
  rw [List.map_map, List.map_map]; rfl
def spLOther : Sp := fun vs H Q _ => ∃ (p a : Addr) (B : Br) (Pp : Pi), vs = [.ref p, .ref a] ∧ PotAt H p ∧ H a = some (.dK (bk B)) ∧ Wf Nm B Pp ∧
  ∀ (t a' b' : Addr) (P' : Pi) (H' : Hp), Kp p H H' → PotAt H' p → H t = none → H a' = none → H b' = none → H' t = some (.tup [.ref a', .ref b']) → H' a' = some (.dK (bk (mapN (nms B) fun _ => 60))) → H' b' = some (.dT (pt P')) → Good (mapN (nms B) fun _ => 60) P' → Q (.ref t) H'
def spLayered : Sp := fun vs H Q _ => ∃ (p : Addr), vs = [.ref p] ∧ PotAt H p ∧
  ∀ (t a' b' : Addr) (ns : List Str) (P' : Pi) (H' : Hp), Kp p H H' → PotAt H' p → H t = none → H a' = none → H b' = none → H' t = some (.tup [.ref a', .ref b']) → H' a' = some (.dK (bk (mapN ns fun _ => 2))) → H' b' = some (.dT (pt P')) → Good (mapN ns fun _ => 2) P' → Q (.ref t) H'
section
variable {P : Program} {w : World} {K : PySem.W.Frag} {mg : Str → Option Value} {base : Heap}
theorem scLOther16 : FnScope ["_law_pot_here", "_law_brims", "_law_more", "_law_names", "_law_pipes", "_law_at", "_law_name_here"] ["_law_pot_here", "_law_brims"] (defScope s_law_other) := ⟨rfl, rfl, rfl, by decide +kernel, rfl, by decide +kernel, by decide +kernel⟩
theorem ok_lother {f f_draw C : Addr} {fd fd_draw : FuncData} (F : Fun K "_law_other" "_law_other" s_law_other f fd) (T : TxN K mg C)
    (F_draw : Fun K "_law_draw" "_law_draw" sDraw f_draw fd_draw) (G_draw : FnOk P w K mg base CX0 1 f_draw fd_draw ["_law_pot_here", "_law_many"] spDraw) (b_draw : Binds K fd_draw ["_law_pot_here", "_law_many"] []) (g_draw : mg "_law_draw" = some (.ref f_draw))
    (x_dict : mg "dict" = none)
    (x_len : mg "len" = none)
    (x_range : mg "range" = none)
    (x_sorted : mg "sorted" = none) : FnOk P w K mg base CX0 2 f fd ["_law_pot_here", "_law_brims"] spLOther := by
  refine F.ok scLOther16 (fun vs H Q E h => ?_) (fun cdv A outer s H vs Q E hr h => ?_)
  · obtain ⟨p, a, B, Pp, rfl, _⟩ := h
    rfl
  · obtain ⟨p, a, B, Pp, rfl, hP, hA, wf, q⟩ := h
    have hu := hu_of hr
    refine ⟨_, (pss_cons (ps_set (i := 2) scLOther16.nd rfl (by first | exact .inl rfl | exact .inr rfl) (pe_callTy (call_dictP rfl) (by rfl) x_dict (by decide +kernel) (pa_cons (pe_lock (pe_lc (own := [("_law_name_here", 6)]) (g := gName 6) (tt := tYes) (te := (tTup (tCons (tVar 6) (tCons (tC (.int 60)) tNil)))) rfl scLOther16.nd (pi_keys (pv 1)) (blkOk_by (N := ["_law_pot_here", "_law_brims", "_law_more", "_law_names", "_law_pipes", "_law_at", "_law_name_here"]) (sc := defScope s_law_other) (by decide +kernel)) (fun _ _ _ _ _ => (pg_name (i := 6) scLOther16.nd rfl (Or.inl rfl))) (fun _ _ _ _ _ => pts_nil) (fun _ _ _ _ _ => pe_tup (pa_cons (pv 6) (pa_cons pe_int pa_nil))))) pa_nil)))
      (pss_cons (ps_par (i := 3) (j := 4) rfl scLOther16.nd rfl rfl (by decide) rfl rfl (pa_cons (pe_callB (call_sortedD rfl) (by rfl) x_sorted (by decide +kernel) (pa_cons (pv 1) pa_nil)) (pa_cons pe_dnewT pa_nil)) (by rfl))
      (pss_cons (ps_for PassesOwn.never rfl (pi_range1 (by rfl) x_range (pa_cons (pe_op op_sub (pe_callB call_len_seq (by rfl) x_len PySem.boot_len (pa_cons (pv 3) pa_nil)) pe_int) pa_nil)) (pg_name (i := 5) scLOther16.nd rfl (by first | exact .inl rfl | exact .inr rfl))
        (pss_one (ps_if (pt_cmpR op_eq (pe_call G_draw hr (by rfl) g_draw F_draw.kp b_draw .nil pass0 (pa_cons (pv 0) (pa_cons pe_int pa_nil))) pe_int (nomark _)) (pss_one (ps_dput hu (pv 4) (pe_tup (pa_cons (pe_ix ix_list (pv 3) (pe_op op_add (pv 5) pe_int) (fun _ _ => rfl)) (pa_cons (pe_ix ix_list (pv 3) (pv 5) (fun _ _ => rfl)) pa_nil))) pe_int rfl)) pss_nil)))
      (pss_one (ps_ret (pe_tup (pa_cons (pv 2) (pa_cons (pv 4) pa_nil)))))))), ?_⟩
    refine pairs_lc (K := K) (ja := 1) (jv := 6) (fun _ => 60) wf.lb hA rfl (fun _ => rfl) (fun _ => rfl) (fun p od H2 R hm sm r => r _ (Same.refl _)) fun D as H2 s2 nD hD2 hP2 => ?_
    refine ⟨D, as, bk (mapN (nms B) fun _ => 60), rfl, SqL.of hD2, paired_of hP2, fun m nm => ?_⟩
    have ndN : (nms (mapN (nms B) fun _ => 60)).Nodup := by unfold mapN; rw [nms_map]; exact wf.nb
    have em : mergeK [] (bk (mapN (nms B) fun _ => 60)) = bk (mapN (nms B) fun _ => 60) := merge_bk _ [] ndN
    rw [em]
    have nmH : H m = none := s2.free nm
    have s3 : Same H (upd H2 m (.dK (bk (mapN (nms B) fun _ => 60)))) := s2.trans (same_new nm)
    obtain ⟨H3, eH3, hm3⟩ : ∃ X, X = upd H2 m (.dK (bk (mapN (nms B) fun _ => 60))) ∧ X m = some (.dK (bk (mapN (nms B) fun _ => 60))) := ⟨_, rfl, upd_same⟩
    rw [← eH3] at s3 ⊢
    clear eH3 nm hP2 hD2 nD s2
    refine ⟨.ref a, rfl, a, bk B, nms B, rfl, .inl (s3 a _ hA), bk_keysN B, by rw [nms_len]; have := wf.lb; omega, fun ys l pm so nl => ?_⟩
    have s4 := s3.trans (same_new (o := .lst (ys.map V.str)) nl)
    refine fun b nb => ?_
    have s5 := s4.trans (same_new (o := .dT []) nb)
    refine ⟨.ref l, .ref b, rfl, ?_⟩
    have nlH : H l = none := s3.free nl
    have nbH : H b = none := s4.free nb
    have mp := hP.ne nmH
    have lp := hP.ne nlH
    have bp := hP.ne nbH
    have hP5 := hP.same s5
    have lb : l ≠ b := fun e => by rw [← e, upd_same] at nb; cases nb
    have ml : m ≠ l := fun e => by rw [← e, hm3] at nl; cases nl
    have mb : m ≠ b := fun e => by rw [← e, upd_ne ml, hm3] at nb; cases nb
    have hl5 : upd (upd H3 l (.lst (ys.map V.str))) b (.dT []) l = some (.lst (ys.map V.str)) := by rw [upd_ne lb, upd_same]
    have hb5 : upd (upd H3 l (.lst (ys.map V.str))) b (.dT []) b = some (.dT (pt [])) := upd_same
    have hm5 : upd (upd H3 l (.lst (ys.map V.str))) b (.dT []) m = some (.dK (bk (mapN (nms B) fun _ => 60))) := by rw [upd_ne mb, upd_ne ml]; exact hm3
    obtain ⟨H5, eH5⟩ : ∃ X, X = upd (upd H3 l (.lst (ys.map V.str))) b (.dT []) := ⟨_, rfl⟩
    rw [← eH5] at s5 hl5 hb5 hm5 hP5 ⊢
    clear eH5
    have ndy : ys.Nodup := pm.nodup_iff.mpr wf.nb
    have ly : ys.length ≤ 12 := by rw [pm.length_eq, nms_len]; exact wf.lb
    refine ⟨.ref l, rfl, l, ys.map V.str, rfl, .inl (SqL.of hl5), _, _, rfl, rfl, ?_⟩
    refine ⟨_, rfl, by rw [List.length_map]; omega, by rw [List.length_map]; omega, ?_⟩
    refine for_it walk_range (fun k σ H6 => ∃ (P' : Pi) (S : Nat → Prop) (y5 : Option V), σ = [some (.ref p), some (.ref a), some (.ref m), some (.ref l), some (.ref b), y5, none] ∧ H6 m = some (.dK (bk (mapN (nms B) fun _ => 60))) ∧ H6 l = some (.lst (ys.map V.str)) ∧ H6 b = some (.dT (pt P')) ∧ Lnk ys 60 (fun i j => i = j + 1 ∧ S j) P' ∧ (∀ j, S j → j < k) ∧ P'.length ≤ k ∧ PotAt H6 p ∧ Kp p H H6)
      ⟨[], fun _ => False, none, rfl, hm5, hl5, hb5, (Lnk.nil ys 60).mono fun i j _ _ => ⟨fun h => h.elim, fun h => h.2.elim⟩, fun j h => h.elim, Nat.le_refl _, hP5, fun x o _ e => s5 x o e⟩ (fun _ _ _ _ _ => trivial) ?_ ?_
    · rintro k x σ H6 H6' hk ⟨P', S, y5, rfl, hm6, hl6, hb6, L, hS, lP, hP6, kp6⟩ ⟨rfl, rfl⟩
      rw [List.length_map] at hk
      have hk2 : k + 1 < ys.length := by omega
      obtain ⟨y, hy⟩ : ∃ y, ys[k]? = some y := ⟨_, List.getElem?_eq_getElem (by omega)⟩
      obtain ⟨x, hx⟩ : ∃ x, ys[k + 1]? = some x := ⟨_, List.getElem?_eq_getElem hk2⟩
      refine ⟨.ref p, rfl, p, 2, rfl, hP6, by decide, by decide, fun d H7 k7 hP7 d0 d1 => ?_⟩
      have hm7 := k7 m _ mp hm6
      have hl7 := k7 l _ lp hl6
      have hb7 := k7 b _ bp hb6
      refine ⟨rfl, _, rfl, ite2 (fun c => ?_) (fun c => ?_)⟩
      · refine ⟨.ref b, rfl, .ref l, rfl, .int (0 + (k : Int)), rfl, _, _, rfl, rfl, l, _, _, .str x, rfl, rfl, SqL.of hl7, ?_, .ref l, rfl, .int (0 + (k : Int)), rfl, l, _, _, .str y, rfl, rfl, SqL.of hl7, ?_, line1000 (by show 2 ≤ 1000; decide), fun t nt => ?_⟩
        · rw [show (0 + (k : Int) + 1) = ((k + 1 : Nat) : Int) by omega]
          exact atI_nat (by rw [List.getElem?_map, hx]; rfl)
        · rw [show (0 + (k : Int)) = ((k : Nat) : Int) by omega]
          exact atI_nat (by rw [List.getElem?_map, hy]; rfl)
        have s8 : Same H7 (upd H7 t (.tup [.str x, .str y])) := same_new nt
        have no : ¬ (k + 1 = k + 1 ∧ S k) := fun h => absurd (hS k h.2) (Nat.lt_irrefl k)
        have fr := L.fresh ndy hx hy no
        refine ⟨b, _, rfl, DPut.t (k := Rl.pk (x, y)) (s8 b _ hb7) upd_same (by rw [pt_len]; exact small1000 (by omega)), ?_⟩
        rw [putK_pt fr]
        refine ⟨P' ++ [((x, y), 60)], fun j => S j ∨ j = k, _, rfl, ?_, ?_, upd_same, (L.add ndy hx hy no).mono fun i j _ _ => ?_, fun j h => ?_, ?_, (hP7.same s8).put bp, fun x o nx e => ?_⟩
        · rw [upd_ne mb]; exact s8 m _ hm7
        · rw [upd_ne lb]; exact s8 l _ hl7
        · constructor
          · rintro (⟨h1, h2⟩ | ⟨h1, h2⟩)
            · exact ⟨h1, .inl h2⟩
            · exact ⟨by omega, .inr h2⟩
          · rintro ⟨h1, h2 | h2⟩
            · exact .inl ⟨h1, h2⟩
            · exact .inr ⟨by omega, h2⟩
        · rcases h with h | h
          · have := hS j h; omega
          · omega
        · rw [List.length_append]; show P'.length + 1 ≤ k + 1; omega
        · rw [upd_ne (ne_of_none e nbH)]
          exact s8 x o (k7 x o nx (kp6 x o nx e))
      · exact ⟨P', S, _, rfl, hm7, hl7, hb7, L, fun j h => by have := hS j h; omega, by omega, hP7, kp6.trans k7⟩
    · rintro σ H6 ⟨P', S, y5, rfl, hm6, hl6, hb6, L, hS, lP, hP6, kp6⟩
      refine ⟨.ref m, rfl, .ref b, rfl, line1000 (by show 2 ≤ 1000; decide), fun t nt => ?_⟩
      have nmy : ∀ z ∈ ys, Nm z := fun z hz => by
        obtain ⟨u, hu', eu⟩ := List.mem_map.mp (pm.mem_iff.mp hz)
        rw [← (show u.1 = z from eu)]; exact (wf.rb u hu').1
      have gd := chain_good L ndy nmy ly (by rw [List.length_map] at lP; omega) (fun i j r => r.1)
      exact q t m b P' _ (kp6.trans (Kp.new nt)) (hP6.new nt) (kp6.free hP6 nt) nmH nbH upd_same ((same_new nt) m _ hm6) ((same_new nt) b _ hb6) (gd.perm (pm.map _) (List.Perm.refl _))
theorem scLayered : FnScope ["_law_pot_here", "_law_names", "_law_pipes", "_law_k", "_law_name_here"] ["_law_pot_here"] (defScope s_law_layered) := ⟨rfl, rfl, rfl, by decide +kernel, rfl, by decide +kernel, by decide +kernel⟩
theorem ok_layered {f f_lname C : Addr} {fd fd_lname : FuncData} (F : Fun K "_law_layered" "_law_layered" s_law_layered f fd) (T : TxN K mg C)
    (F_lname : Fun K "_law_name" "_law_name" sLName f_lname fd_lname) (G_lname : FnOk P w K mg base CX0 2 f_lname fd_lname ["_law_pot_here", "_law_taken"] spLName) (b_lname : Binds K fd_lname ["_law_pot_here", "_law_taken"] []) (g_lname : mg "_law_name" = some (.ref f_lname))
    (x_dict : mg "dict" = none)
    (x_range : mg "range" = none) : FnOk P w K mg base CX0 3 f fd ["_law_pot_here"] spLayered := by
  refine F.ok scLayered (fun vs H Q E h => ?_) (fun cdv A outer s H vs Q E hr h => ?_)
  · obtain ⟨p, rfl, _⟩ := h
    rfl
  · obtain ⟨p, rfl, hP, q⟩ := h
    have hu := hu_of hr
    refine ⟨_, (pss_cons (ps_par (i := 1) (j := 2) rfl scLayered.nd rfl rfl (by decide) rfl rfl (pa_cons (pe_lst pa_nil) (pa_cons pe_dnewT pa_nil)) (by rfl))
      (pss_cons (ps_for PassesOwn.never rfl (pi_range1 (by rfl) x_range (pa_cons pe_int pa_nil)) (pg_name (i := 3) scLayered.nd rfl (by first | exact .inl rfl | exact .inr rfl))
        (pss_one (ps_expr (pe_call G_lname hr (by rfl) g_lname F_lname.kp b_lname .nil pass0 (pa_cons (pv 0) (pa_cons (pv 1) pa_nil))))))
      (pss_cons (ps_for PassesOwn.never rfl (pi_range1 (by rfl) x_range (pa_cons pe_int pa_nil)) (pg_name (i := 3) scLayered.nd rfl (by first | exact .inl rfl | exact .inr rfl))
        (pss_one (ps_for PassesOwn.never rfl (pi_list (pe_slice sl_list (pv 1) (po_some (pe_op op_add (pe_op op_mul (pe_op op_fdiv (pv 3) pe_int) pe_int) pe_int)) (po_some (pe_op op_add (pe_op op_mul (pe_op op_fdiv (pv 3) pe_int) pe_int) pe_int)))) (pg_name (i := 4) scLayered.nd rfl (by first | exact .inl rfl | exact .inr rfl))
          (pss_one (ps_dput hu (pv 2) (pe_tup (pa_cons (pe_ix ix_list (pv 1) (pv 3) (fun _ _ => rfl)) (pa_cons (pv 4) pa_nil))) pe_int rfl)))))
      (pss_one (ps_ret (pe_tup (pa_cons (pe_callTy (call_dictP rfl) (by rfl) x_dict (by decide +kernel) (pa_cons (pe_lc (own := [("_law_name_here", 4)]) (g := gName 4) (tt := tYes) (te := (tTup (tCons (tVar 4) (tCons (tC (.int 2)) tNil)))) rfl scLayered.nd (pi_list (pv 1)) (blkOk_by (N := ["_law_pot_here", "_law_names", "_law_pipes", "_law_k", "_law_name_here"]) (sc := defScope s_law_layered) (by decide +kernel)) (fun _ _ _ _ _ => (pg_name (i := 4) scLayered.nd rfl (Or.inl rfl))) (fun _ _ _ _ _ => pts_nil) (fun _ _ _ _ _ => pe_tup (pa_cons (pv 4) (pa_cons pe_int pa_nil)))) pa_nil)) (pa_cons (pv 2) pa_nil)))))))), ?_⟩
    refine ⟨Nat.zero_le _, fun n nn => ?_⟩
    refine fun b nb => ?_
    refine ⟨.ref n, .ref b, rfl, ?_⟩
    have np := hP.ne nn
    have nnH : H n = none := nn
    have s1 := (same_new (o := .lst []) nn).trans (same_new (o := .dT []) nb)
    have nbH : H b = none := (same_new (o := .lst []) nn).free nb
    have bp := hP.ne nbH
    have nb' : n ≠ b := fun e => by rw [← e, upd_same] at nb; cases nb
    have hP1 := hP.same s1
    have hn1 : upd (upd H n (.lst [])) b (.dT []) n = some (.lst (([] : List Str).map V.str)) := by rw [upd_ne nb', upd_same]; rfl
    have hb1 : upd (upd H n (.lst [])) b (.dT []) b = some (.dT (pt [])) := upd_same
    obtain ⟨H1, eH1⟩ : ∃ X, X = upd (upd H n (.lst [])) b (.dT []) := ⟨_, rfl⟩
    rw [← eH1] at s1 hP1 hn1 hb1 ⊢
    clear eH1 nn nb
    refine ⟨_, rfl, (by decide), (by decide), ?_⟩
    refine for_it walk_range (fun k σ H6 => ∃ (L : List Str) (y3 : Option V), σ = [some (.ref p), some (.ref n), some (.ref b), y3, none] ∧ H6 n = some (.lst (L.map V.str)) ∧ H6 b = some (.dT (pt [])) ∧ L.Nodup ∧ (∀ z ∈ L, Nm z) ∧ L.length = k ∧ PotAt H6 p ∧ Kp p H H6)
      ⟨[], none, rfl, hn1, hb1, List.nodup_nil, fun z hz => absurd hz List.not_mem_nil, rfl, hP1, fun x o _ e => s1 x o e⟩ (fun _ _ _ _ _ => trivial) ?_ ?_
    · rintro k x σ H6 H6' hk ⟨L, y3, rfl, hn6, hb6, ndL, nmL, lL, hP6, kp6⟩ ⟨rfl, rfl⟩
      have hk : k < 12 := hk
      refine ⟨.ref p, rfl, .ref n, rfl, p, n, L, rfl, hP6, hn6, by omega, nmL, fun z H7 nz zL hn7 kp7 hP7 => ?_⟩
      refine ⟨L ++ [z], _, rfl, hn7, kp7 b _ bp (Ne.symm nb') hb6, ?_, fun y hy => ?_, ?_, hP7, fun x o nx e => kp7 x o nx (ne_of_none e nnH) (kp6 x o nx e)⟩
      · rw [List.nodup_append]
        exact ⟨ndL, by simp, fun a ha c hc e => zL (by rw [List.mem_singleton.mp hc] at e; rw [← e]; exact ha)⟩
      · rcases List.mem_append.mp hy with h | h
        · exact nmL y h
        · rw [List.mem_singleton.mp h]; exact nz
      · rw [List.length_append, lL]; rfl
    rintro σ H2 ⟨L, y3, rfl, hn2, hb2, ndL, nmL, lL, hP2, kp2⟩
    have lL : L.length = 12 := lL
    clear s1 hP1 hn1 hb1
    refine ⟨_, rfl, (by decide), (by decide), ?_⟩
    refine for_it walk_range (fun k σ H6 => ∃ (P' : Pi) (y3 y4 : Option V), σ = [some (.ref p), some (.ref n), some (.ref b), y3, y4] ∧ H6 n = some (.lst (L.map V.str)) ∧ H6 b = some (.dT (pt P')) ∧ Lnk L 1 (fun i j => i < k ∧ j / 2 = i / 2 + 1) P' ∧ P'.length ≤ 2 * k ∧ PotAt H6 p ∧ Kp p H H6)
      ⟨[], _, none, rfl, hn2, hb2, (Lnk.nil L 1).mono fun i j _ _ => ⟨fun h => h.elim, fun h => absurd h.1 (Nat.not_lt_zero i)⟩, Nat.zero_le _, hP2, kp2⟩ (fun _ _ _ _ _ => trivial) ?_ ?_
    · rintro k x σ H6 H6' hk ⟨P', y3, y4, rfl, hn6, hb6, Lk, lP, hP6, kp6⟩ ⟨rfl, rfl⟩
      have hk : k < 10 := hk
      obtain ⟨x, hx⟩ : ∃ x, L[k]? = some x := ⟨_, List.getElem?_eq_getElem (by omega)⟩
      obtain ⟨s, hs⟩ : ∃ s, s = k / 2 * 2 + 2 := ⟨_, rfl⟩
      have s10 : s ≤ 10 := by omega
      refine ⟨.ref n, rfl, .int (0 + (k : Int)), rfl, _, _, rfl, rfl, ⟨by decide, by decide⟩, _, _, rfl, rfl, .inr ⟨by decide, by decide⟩, _, _, rfl, rfl, _, rfl, .int (0 + (k : Int)), rfl, _, _, rfl, rfl, ⟨by decide, by decide⟩, _, _, rfl, rfl, .inr ⟨by decide, by decide⟩, _, _, rfl, rfl, _, rfl, n, L.map V.str, rfl, SqL.of hn6, fun c nc => ?_⟩
      have e1 : (0 + (k : Int)) / 2 * 2 + 2 = ((s : Nat) : Int) := by omega
      have e2 : (0 + (k : Int)) / 2 * 2 + 4 = ((s + 2 : Nat) : Int) := by omega
      obtain ⟨Y, eY⟩ : ∃ Y, Y = (L.drop s).take 2 := ⟨_, rfl⟩
      have ec : cutV (L.map V.str) (some ((0 + (k : Int)) / 2 * 2 + 2)) (some ((0 + (k : Int)) / 2 * 2 + 4)) = Y.map V.str := by
        rw [e1, e2]
        unfold cutV
        rw [HT.sIx_nat, HT.sIx_nat, List.length_map, lL, Nat.min_eq_left (by omega), Nat.min_eq_left (by omega), eY, List.map_take, List.map_drop]
        congr 1
        omega
      rw [ec]
      have lY : Y.length = 2 := by rw [eY, List.length_take, List.length_drop, lL]; omega
      have atY : ∀ j, j < 2 → Y[j]? = L[s + j]? := fun j hj => by
        rw [eY, List.getElem?_take_of_lt hj, List.getElem?_drop]
      have hc7 : upd H6' c (.lst (Y.map V.str)) c = some (.lst (Y.map V.str)) := upd_same
      have s7 := same_new (o := .lst (Y.map V.str)) nc
      have ncH : H c = none := kp6.free hP6 nc
      have cp := hP.ne ncH
      have cb : c ≠ b := fun e => by rw [e, hb6] at nc; cases nc
      have hP7 := hP6.same s7
      have hn7 := s7 n _ hn6
      have hb7 := s7 b _ hb6
      have kp7 := kp6.trans (Kp.of_same (p := p) s7)
      obtain ⟨H7, eH7⟩ : ∃ X, X = upd H6' c (.lst (Y.map V.str)) := ⟨_, rfl⟩
      rw [← eH7] at hc7 hP7 hn7 hb7 kp7 ⊢
      clear eH7 nc s7 hn6 hb6 hP6 kp6
      refine ⟨c, rfl, ⟨_, SqL.of hc7⟩, ?_⟩
      refine for_it (walk_list (K := K) (a := c) (xs := Y.map V.str)) (fun m σ H8 => ∃ (P2 : Pi) (y4 : Option V), σ = [some (.ref p), some (.ref n), some (.ref b), some (.int (0 + (k : Int))), y4] ∧ H8 n = some (.lst (L.map V.str)) ∧ H8 c = some (.lst (Y.map V.str)) ∧ H8 b = some (.dT (pt P2)) ∧ Lnk L 1 (fun i j => (i < k ∧ j / 2 = i / 2 + 1) ∨ (i = k ∧ s ≤ j ∧ j < s + m)) P2 ∧ P2.length ≤ 2 * k + m ∧ PotAt H8 p ∧ Kp p H H8)
        ⟨P', _, rfl, hn7, hc7, hb7, Lk.mono fun i j _ _ => ⟨fun h => .inl h, fun h => h.elim id fun h => by omega⟩, lP, hP7, kp7⟩ (fun i σ H1 _ ⟨_, _, _, _, h, _⟩ => SqL.of h) ?_ ?_
      · rintro m v σ H8 H8' hm ⟨P2, y4, rfl, hn8, hc8, hb8, L2, lP2, hP8, kp8⟩ ⟨rfl, hv⟩
        rw [List.length_map, lY] at hm
        obtain ⟨y, hy⟩ : ∃ y, L[s + m]? = some y := ⟨_, List.getElem?_eq_getElem (by omega)⟩
        have ev : v = .str y := by
          rw [List.getElem?_map, atY m hm, hy] at hv
          exact (Option.some.inj hv).symm
        subst ev
        refine ⟨.ref b, rfl, .ref n, rfl, .int (0 + (k : Int)), rfl, n, _, _, .str x, rfl, rfl, SqL.of hn8, ?_, .str y, rfl, line1000 (by show 2 ≤ 1000; decide), fun t nt => ?_⟩
        · rw [show (0 + (k : Int)) = ((k : Nat) : Int) by omega]
          exact atI_nat (by rw [List.getElem?_map, hx]; rfl)
        have s9 : Same H8' (upd H8' t (.tup [.str x, .str y])) := same_new nt
        have no : ¬ ((k < k ∧ (s + m) / 2 = k / 2 + 1) ∨ (k = k ∧ s ≤ s + m ∧ s + m < s + m)) := by omega
        have fr := L2.fresh ndL hx hy no
        refine ⟨b, _, rfl, DPut.t (k := Rl.pk (x, y)) (s9 b _ hb8) upd_same (by rw [pt_len]; exact small1000 (by omega)), ?_⟩
        rw [putK_pt fr]
        refine ⟨P2 ++ [((x, y), 1)], _, rfl, ?_, ?_, upd_same, (L2.add ndL hx hy no).mono fun i j _ _ => ?_, ?_, (hP8.same s9).put bp, fun x o nx e => ?_⟩
        · rw [upd_ne nb']; exact s9 n _ hn8
        · rw [upd_ne cb]; exact s9 c _ hc8
        · omega
        · rw [List.length_append]; show P2.length + 1 ≤ 2 * k + (m + 1); omega
        · rw [upd_ne (ne_of_none e nbH)]
          exact s9 x o (kp8 x o nx e)
      · rintro σ H8 ⟨P2, y4, rfl, hn8, hc8, hb8, L2, lP2, hP8, kp8⟩
        rw [List.length_map, lY] at L2 lP2
        exact ⟨P2, _, _, rfl, hn8, hb8, L2.mono fun i j _ _ => by omega, by omega, hP8, kp8⟩
    rintro σ H6 ⟨P', y3, y4, rfl, hn6, hb6, Lk, lP, hP6, kp6⟩
    have good := layers_good (Lk.mono fun i j _ _ => Iff.rfl) ndL nmL lL (by have : P'.length ≤ 2 * 10 := lP; omega)
    have n6 : H6 n = some (.lst (L.map V.str)) := hn6
    refine ⟨.ref n, rfl, n, rfl, ⟨_, SqL.of hn6⟩, fun D nD => ?_⟩
    have Dn : n ≠ D := fun e => by rw [← e, hn6] at nD; cases nD
    refine lc_it (n := (L.map V.str).length) (walk_list (K := K) (a := n) (xs := L.map V.str)) (fun i H7 => ∃ as, H7 D = some (.lst (as.map V.ref)) ∧ PairsAt H7 as (mapN (L.take i) fun _ => 2) ∧ Same H6 H7)
      ⟨[], upd_same, ⟨rfl, fun i p e => by simp [mapN] at e⟩, same_new nD⟩ (fun i H7 _ ⟨_, _, _, h⟩ => SqL.of (h n _ hn6)) ?_ ?_
    · rintro i x H7 H7' hi ⟨as, hD7, hP7, s7⟩ ⟨rfl, hx⟩
      rw [List.getElem?_map] at hx
      obtain ⟨z, hz, rfl⟩ := Option.map_eq_some_iff.mp hx
      have lA : as.length ≤ 12 := by
        rw [hP7.1]
        unfold mapN
        rw [List.length_map, List.length_take]
        omega
      refine ⟨rfl, .str z, rfl, line1000 (by show 2 ≤ 1000; decide), fun t nt => ?_⟩
      have nDt : D ≠ t := ne_of_none hD7 nt
      refine ⟨_, (by rw [upd_ne nDt]; exact hD7), (by rw [List.length_map]; exact small1000 (by omega)), as ++ [t], ?_, ?_, ?_⟩
      · rw [upd_same, List.map_append]; rfl
      · rw [mapN_take L (fun _ => 2) i hz]
        refine PairsAt.push (p := (z, 2)) hP7 (fun b xs eb => ?_) (by rw [upd_ne (Ne.symm nDt), upd_same])
        have nb : b ≠ D := fun z => by subst z; rw [hD7] at eb; cases eb
        rw [upd_ne nb, upd_ne (ne_of_none eb nt)]; exact eb
      · exact fun c o ec => by
          have nb : c ≠ D := ne_of_none ec nD
          have e9 := s7 c o ec
          rw [upd_ne nb, upd_ne (ne_of_none e9 nt)]; exact e9
    rintro H7 ⟨as, hD7, hP7, s7⟩
    rw [List.length_map, List.take_length] at hP7
    refine ⟨D, as, bk (mapN L fun _ => 2), rfl, SqL.of hD7, paired_of hP7, fun m nm => ?_⟩
    have ndN : (nms (mapN L fun _ => 2)).Nodup := by unfold mapN; rw [nms_map]; exact ndL
    have em : mergeK [] (bk (mapN L fun _ => 2)) = bk (mapN L fun _ => 2) := merge_bk _ [] ndN
    rw [em]
    have s8 := s7.trans (same_new (o := .dK (bk (mapN L fun _ => 2))) nm)
    refine ⟨.ref b, rfl, line1000 (by show 2 ≤ 1000; decide), fun t nt => ?_⟩
    have s9 := s8.trans (same_new (o := .tup [.ref m, .ref b]) nt)
    have mt : m ≠ t := fun e => by rw [← e, upd_same] at nt; cases nt
    exact q t m b L P' _ (kp6.trans (Kp.of_same s9)) (hP6.same s9) (kp6.free hP6 (s8.free nt)) (kp6.free hP6 (s7.free nm)) nbH upd_same (by rw [upd_ne mt]; exact upd_same) (s9 b _ hb6) good
end
end Nl
end
section
set_option maxHeartbeats 4000000
namespace Nl
open PySem PySem.Spec PyProof.Rows L2 Nt
/-! ### things that are no ponds -/
theorem smx_d1 {z : Str} (h : Sm 25 z) : Rl.Smx (Rl.dN [(z, 1)]) 1 60 := by
  have t := Rl.Smx.txt h
  have h1 := t.lf
  have h2 := t.wt
  refine ⟨?_, Nat.le_refl _, ?_, ?_⟩
  · show (true && decide ((1 : Int).natAbs.log2 < 1920) && true) = true
    decide +kernel
  · show (PyData.leavesShort 2000 (.str z) && decide ((PyData.shown (.int 1)).length ≤ 2000) && true) = true
    rw [h1]
    decide +kernel
  · show PyData.weight (.str z) + PyData.weight (.int 1) + 2 + 0 ≤ 60
    have : PyData.weight (.int 1) ≤ 5 := by decide +kernel
    omega
structure OddOk (K : PySem.W.Frag) (H : Hp) (B : Br) (v : V) : Prop where
  no : NoPnd K H B v
  dy : ∃ d, Rl.Dy H v d ∧ Rl.Shw d
theorem OddOk.str {K : PySem.W.Frag} {H : Hp} {B : Br} {z : Str} (s : Sm 25 z) (no : (nameB z && decide (z ∈ nms B)) = false) : OddOk K H B (.str z) :=
  ⟨.inr ⟨z, rfl, s, no⟩, _, .inl (.str z), (Rl.Smx.txt s).shw (by decide) (by decide)⟩
theorem OddOk.non {K : PySem.W.Frag} {H : Hp} {B : Br} : OddOk K H B .non := ⟨.inl .non, _, .inl .non, ⟨rfl, by decide, by decide +kernel⟩⟩
theorem OddOk.tru {K : PySem.W.Frag} {H : Hp} {B : Br} : OddOk K H B (.bl true) := ⟨.inl .bl, _, .inl (.bl true), ⟨rfl, by decide, by decide +kernel⟩⟩
theorem OddOk.zer {K : PySem.W.Frag} {H : Hp} {B : Br} : OddOk K H B (.int 0) := ⟨.inl .int, _, .inl (.int 0), ⟨rfl, by decide, by decide +kernel⟩⟩
theorem OddOk.lst0 {K : PySem.W.Frag} {H : Hp} {B : Br} {a : Addr} (h : H a = some (.lst [])) : OddOk K H B (.ref a) := ⟨.inl (.lst h), _, .inl (.lst h .nil), ⟨rfl, by decide, by decide +kernel⟩⟩
theorem OddOk.tup0 {K : PySem.W.Frag} {H : Hp} {B : Br} {a : Addr} (h : H a = some (.tup [])) : OddOk K H B (.ref a) := ⟨.inl (.tup h), _, .inl (.tup h .nil), ⟨rfl, by decide, by decide +kernel⟩⟩
theorem OddOk.dic0 {K : PySem.W.Frag} {H : Hp} {B : Br} {a : Addr} (h : H a = some (.dK [])) : OddOk K H B (.ref a) := ⟨.inl (.dic h), _, .inl (.dic h), ⟨rfl, by decide, by decide +kernel⟩⟩
theorem sm_1 {z : Str} (s : Sm 25 z) : Rl.SmxA [.str z] 0 26 := Rl.SmxA.of (k := 0) (m := 25) fun d hd => by rw [List.mem_singleton.mp hd]; exact Rl.Smx.txt s
theorem OddOk.lst1 {K : PySem.W.Frag} {H : Hp} {B : Br} {a : Addr} {z : Str} (h : H a = some (.lst [.str z])) (s : Sm 25 z) : OddOk K H B (.ref a) := ⟨.inl (.lst h), _, .inl (.lst h (.cons (.str z) .nil)), (Rl.Smx.lst (sm_1 s)).shw (by decide) (by decide)⟩
theorem OddOk.tup1 {K : PySem.W.Frag} {H : Hp} {B : Br} {a : Addr} {z : Str} (h : H a = some (.tup [.str z])) (s : Sm 25 z) : OddOk K H B (.ref a) := ⟨.inl (.tup h), _, .inl (.tup h (.cons (.str z) .nil)), (Rl.Smx.tup (sm_1 s)).shw (by decide) (by decide)⟩
theorem OddOk.dic1 {K : PySem.W.Frag} {H : Hp} {B : Br} {a : Addr} {z : Str} (h : H a = some (.dK [((Sum.inr z : Key), V.int 1)])) (s : Sm 25 z) : OddOk K H B (.ref a) := ⟨.inl (.dic h), _, .inr ⟨a, [(z, 1)], rfl, h, rfl⟩, (smx_d1 s).shw (by decide) (by decide)⟩
theorem OddOk.same {K : PySem.W.Frag} {H H' : Hp} {B : Br} {v : V} (h : OddOk K H B v) (s : Same H H') : OddOk K H' B v := by
  obtain ⟨no, d, h1, h2⟩ := h
  exact ⟨no.same s, d, h1.same s, h2⟩
theorem OddOk.of3 {K : PySem.W.Frag} {H : Hp} {B : Br} : OddOk K H B (.str "") ∧ OddOk K H B (.str "Zz") ∧ OddOk K H B (.str "abcdefghi") := by
  have n1 : nameB "" = false := by decide +kernel
  have n2 : nameB "Zz" = false := by decide +kernel
  have n3 : nameB "abcdefghi" = false := by decide +kernel
  refine ⟨.str ⟨by decide +kernel, by decide +kernel⟩ (by rw [n1]; rfl), .str ⟨by decide +kernel, by decide +kernel⟩ (by rw [n2]; rfl), .str ⟨by decide +kernel, by decide +kernel⟩ (by rw [n3]; rfl)⟩
theorem ask_no {z : Str} (h : Nm z) : Sm 25 (z ++ ("?" : Str)) ∧ nameB (z ++ ("?" : Str)) = false := by
  have s8 := h.sm
  have e : (z ++ ("?" : Str)).cps.toList = z.cps.toList ++ ("?" : Str).cps.toList := by
    show (z.cps ++ ("?" : Str).cps).toList = _
    rw [Array.toList_append]
  refine ⟨⟨?_, fun c hc => ?_⟩, ?_⟩
  · rw [Str.length_append]
    have : ("?" : Str).length = 1 := by decide +kernel
    have := s8.1
    omega
  · rw [e] at hc
    rcases List.mem_append.mp hc with m | m
    · exact s8.2 c m
    · have : ∀ c ∈ ("?" : Str).cps.toList, c < 1000 := by decide +kernel
      exact this c m
  · cases c : nameB (z ++ ("?" : Str)) with
    | false => rfl
    | true =>
      have h2 := (Nm.iff.mp (show Nm (z ++ ("?" : Str)) from c)).2 63 (by rw [e]; exact List.mem_append_right _ (by decide +kernel))
      have : ¬ (63 ∈ abc.cps.toList) := by decide +kernel
      exact absurd h2 this
theorem net_mk {C a j : Addr} {H : Hp} {B : Br} {Pp : Pi} {Q : Addr → Hp → Prop} {E : XK} (hA : H a = some (.dK (bk B))) (hJ : H j = some (.dT (pt Pp))) (good : Good B Pp)
    (q : ∀ (n : Addr) (B' : Br) (P' : Pi) (H' : Hp), Same H H' → H n = none → NetAt C H' n B' P' → B'.Perm B → P'.Perm Pp → sortedS (nms B') = true → SrtP P' → Q n H') :
    ∀ x dx, H x = none → H dx = none → dx ≠ x → spNInit C [.ref x, .ref a, .ref j] (upd (upd H dx (.own x)) x (.ins C dx [])) (fun v H2 => v = .non ∧ Q x H2) E := by
  intro x dx nx ndx ne
  have k : ∀ b o, H b = some o → upd (upd H dx (.own x)) x (.ins C dx []) b = some o := fun b o e => by
    rw [upd_ne (ne_of_none e nx), upd_ne (ne_of_none e ndx)]; exact e
  refine ⟨x, dx, a, j, B, Pp, rfl, upd_same, k _ _ hA, k _ _ hJ, good, fun H' B' P' N pB pP so st _ kp => ⟨rfl, q x B' P' H' (fun b o e => kp b o (k b o e) (ne_of_none e nx)) nx N pB pP so st⟩⟩
theorem wk_keys (W : List (Str × Addr)) : (wk W).map (·.1) = (W.map Prod.fst).map Sum.inr := by
  unfold wk
  rw [List.map_map, List.map_map]; rfl
theorem bk_listN (B : Br) : ((bk B).map fun kv => kV kv.1) = (nms B).map V.str := by
  unfold bk nms
  rw [List.map_map, List.map_map]; rfl
theorem WysAt.same {B : Br} {Pp : Pi} {H H' : Hp} {W : List (Str × Addr)} (h : WysAt B Pp H W) (s : Same H H') : WysAt B Pp H' W := fun p hp => let ⟨L, h1, h2⟩ := h p hp; ⟨L, s _ _ h1, h2⟩
theorem WysAt.perm {B B' : Br} {Pp P' : Pi} {H : Hp} {W : List (Str × Addr)} (h : WysAt B Pp H W) (hB : B.Perm B') (hP : Pp.Perm P') : WysAt B' P' H W := fun p hp => let ⟨L, h1, h2⟩ := h p hp; ⟨L, h1, h2.perm hB hP⟩
theorem Kp.same {p : Addr} {H H1 H2 : Hp} (k : Kp p H H1) (s : Same H1 H2) : Kp p H H2 := k.trans (Kp.of_same s)
def spLRight : Sp := fun vs H Q _ => ∃ p : Addr, vs = [.ref p] ∧ PotAt H p ∧ ∀ H', Kp p H H' → Q (.bl true) H'
theorem laid_new {H : Hp} {a : Addr} {o : HO} (n : H a = none) : ∃ X, X = upd H a o ∧ Same H X ∧ X a = some o := ⟨_, rfl, same_new n, upd_same⟩
section
variable {P : Program} {w : World} {K : PySem.W.Frag} {mg : Str → Option Value} {base : Heap}
theorem scLRight16 : FnScope ["_law_pot_here", "_law_brims", "_law_pipes", "_law_more", "_law_others", "_law_net_here", "_law_other_here", "_law_ways_here", "_law_beyond", "_law_fresh", "_law_near", "_law_odd", "_law_sizes", "_law_layered_here"] ["_law_pot_here"] (defScope sRight) := ⟨rfl, rfl, rfl, by decide +kernel, rfl, by decide +kernel, by decide +kernel⟩
theorem ok_lright {f f_lnet f_lother f_lways f_areTold f_lname f_draw f_lrefused f_layered C : Addr} {fd fd_lnet fd_lother fd_lways fd_areTold fd_lname fd_draw fd_lrefused fd_layered : FuncData} {f_nI : Addr} {fd_nI : FuncData} {dsNet2 : List Value} (F : Fun K "_law_right" "_law_right" sRight f fd) (T : TxN K mg C)
    (F_lnet : Fun K "_law_net" "_law_net" sNet f_lnet fd_lnet) (G_lnet : FnOk P w K mg base CX0 3 f_lnet fd_lnet ["_law_pot_here", "_law_most", "_law_high"] spNet) (b_lnet : Binds K fd_lnet ["_law_pot_here", "_law_most", "_law_high"] []) (g_lnet : mg "_law_net" = some (.ref f_lnet))
    (F_lother : Fun K "_law_other" "_law_other" s_law_other f_lother fd_lother) (G_lother : FnOk P w K mg base CX0 2 f_lother fd_lother ["_law_pot_here", "_law_brims"] spLOther) (b_lother : Binds K fd_lother ["_law_pot_here", "_law_brims"] []) (g_lother : mg "_law_other" = some (.ref f_lother))
    (MN : Mk K C f_nI) (G_nI : FnOk P w K mg base CX0 5 f_nI fd_nI ["self", "brims", "pipes"] (spNInit C))
    (b_n : Binds K fd_nI ["self", "brims", "pipes"] dsNet2) (v_n : Vals [] dsNet2)
    (F_lways : Fun K "_law_ways" "_law_ways" s_law_ways f_lways fd_lways) (G_lways : FnOk P w K mg base CX0 2 f_lways fd_lways ["_law_brims", "_law_pipes"] spLWays) (b_lways : Binds K fd_lways ["_law_brims", "_law_pipes"] []) (g_lways : mg "_law_ways" = some (.ref f_lways))
    (F_areTold : Fun K "_law_are_told" "_law_are_told" s_law_are_told f_areTold fd_areTold) (G_areTold : FnOk P w K mg base CX0 7 f_areTold fd_areTold ["_law_net_here", "_law_ways_here"] (spAreTold C)) (b_areTold : Binds K fd_areTold ["_law_net_here", "_law_ways_here"] []) (g_areTold : mg "_law_are_told" = some (.ref f_areTold))
    (F_lname : Fun K "_law_name" "_law_name" sLName f_lname fd_lname) (G_lname : FnOk P w K mg base CX0 2 f_lname fd_lname ["_law_pot_here", "_law_taken"] spLName) (b_lname : Binds K fd_lname ["_law_pot_here", "_law_taken"] []) (g_lname : mg "_law_name" = some (.ref f_lname))
    (F_draw : Fun K "_law_draw" "_law_draw" sDraw f_draw fd_draw) (G_draw : FnOk P w K mg base CX0 1 f_draw fd_draw ["_law_pot_here", "_law_many"] spDraw) (b_draw : Binds K fd_draw ["_law_pot_here", "_law_many"] []) (g_draw : mg "_law_draw" = some (.ref f_draw))
    (F_lrefused : Fun K "_law_refused" "_law_refused" sRefused f_lrefused fd_lrefused) (G_lrefused : Rl.FnG P w K mg base CX0 8 f_lrefused fd_lrefused ["_law_net_here", "_law_thing"] (spLRefused K C)) (b_lrefused : Binds K fd_lrefused ["_law_net_here", "_law_thing"] []) (g_lrefused : mg "_law_refused" = some (.ref f_lrefused))
    (F_layered : Fun K "_law_layered" "_law_layered" s_law_layered f_layered fd_layered) (G_layered : FnOk P w K mg base CX0 3 f_layered fd_layered ["_law_pot_here"] spLayered) (b_layered : Binds K fd_layered ["_law_pot_here"] []) (g_layered : mg "_law_layered" = some (.ref f_layered))
    (x_len : mg "len" = none)
    (x_list : mg "list" = none)
    (x_sorted : mg "sorted" = none) : Rl.FnG P w K mg base CX0 9 f fd ["_law_pot_here"] spLRight := by
  refine Rl.okG F scLRight16 (fun vs H Q E h => ?_) (fun cdv A outer s H vs Q E hg hr h => ?_)
  · obtain ⟨p, rfl, _⟩ := h
    rfl
  · obtain ⟨p, rfl, hP, q⟩ := h
    have hr1 := hr.mono (show 1 ≤ 8 by decide)
    have hr2 := hr.mono (show 2 ≤ 8 by decide)
    have hr3 := hr.mono (show 3 ≤ 8 by decide)
    have hr6 := hr.mono (show 6 ≤ 8 by decide)
    have hr7 := hr.mono (show 7 ≤ 8 by decide)
    refine ⟨_, (pss_cons (ps_asg (pe_call G_lnet hr3 (by rfl) g_lnet F_lnet.kp b_lnet .nil pass0 (pa_cons (pv 0) (pa_cons pe_int (pa_cons pe_int pa_nil)))) (pg_tup rfl (pgs_cons (pg_name (i := 1) scLRight16.nd rfl (by first | exact .inl rfl | exact .inr rfl)) (pgs_cons (pg_name (i := 2) scLRight16.nd rfl (by first | exact .inl rfl | exact .inr rfl)) pgs_nil))))
      (pss_cons (ps_asg (pe_call G_lother hr2 (by rfl) g_lother F_lother.kp b_lother .nil pass0 (pa_cons (pv 0) (pa_cons (pv 1) pa_nil))) (pg_tup rfl (pgs_cons (pg_name (i := 3) scLRight16.nd rfl (by first | exact .inl rfl | exact .inr rfl)) (pgs_cons (pg_name (i := 4) scLRight16.nd rfl (by first | exact .inl rfl | exact .inr rfl)) pgs_nil))))
      (pss_cons (ps_par (i := 5) (j := 6) rfl scLRight16.nd rfl rfl (by decide) rfl rfl (pa_cons (pe_make MN G_nI hr6 (by rfl) T.mgC b_n v_n pass0 (pa_cons (pv 1) (pa_cons (pv 2) pa_nil))) (pa_cons (pe_make MN G_nI hr6 (by rfl) T.mgC b_n v_n pass0 (pa_cons (pv 3) (pa_cons (pv 4) pa_nil))) pa_nil)) (by rfl))
      (pss_cons (ps_par (i := 7) (j := 8) rfl scLRight16.nd rfl rfl (by decide) rfl rfl (pa_cons (pe_call G_lways hr2 (by rfl) g_lways F_lways.kp b_lways .nil pass0 (pa_cons (pv 1) (pa_cons (pv 2) pa_nil))) (pa_cons (pe_call G_lways hr2 (by rfl) g_lways F_lways.kp b_lways .nil pass0 (pa_cons (pv 3) (pa_cons (pv 4) pa_nil))) pa_nil)) (by rfl))
      (pss_cons (ps_if (PW.pt (pw_or (pt_cmpR (op_neD hr.units) (pe_callB (call_sortedD rfl) (by rfl) x_sorted (by decide +kernel) (pa_cons (pv 7) pa_nil)) (pe_callB (call_sortedD rfl) (by rfl) x_sorted (by decide +kernel) (pa_cons (pv 1) pa_nil)) (nomark _)) (pw_or (pt_not (pt_val (pe_call G_areTold hr7 (by rfl) g_areTold F_areTold.kp b_areTold .nil pass0 (pa_cons (pv 5) (pa_cons (pv 7) pa_nil))))) (pw_or1 (pt_not (pt_val (pe_call G_areTold hr7 (by rfl) g_areTold F_areTold.kp b_areTold .nil pass0 (pa_cons (pv 6) (pa_cons (pv 8) pa_nil))))))))) (pss_one (ps_ret pe_bl)) pss_nil)
      (pss_cons (ps_set (i := 9) scLRight16.nd rfl (by first | exact .inl rfl | exact .inr rfl) (pe_call G_lname hr2 (by rfl) g_lname F_lname.kp b_lname .nil pass0 (pa_cons (pv 0) (pa_cons (pe_callTy (call_listD rfl) (by rfl) x_list (by decide +kernel) (pa_cons (pv 1) pa_nil)) pa_nil))))
      (pss_cons (ps_set (i := 10) scLRight16.nd rfl (by first | exact .inl rfl | exact .inr rfl) (pe_ix ix_list (pe_op op_cat (pe_callB (call_sortedD rfl) (by rfl) x_sorted (by decide +kernel) (pa_cons (pv 1) pa_nil)) (pe_lst (pa_cons (pv 9) pa_nil))) (pe_call G_draw hr1 (by rfl) g_draw F_draw.kp b_draw .nil pass0 (pa_cons (pv 0) (pa_cons (pe_op op_add (pe_callB call_lenD (by rfl) x_len PySem.boot_len (pa_cons (pv 1) pa_nil)) pe_int) pa_nil))) (fun _ _ => rfl)))
      (pss_cons (ps_set (i := 11) scLRight16.nd rfl (by first | exact .inl rfl | exact .inr rfl) (pe_lst (pa_cons pe_non (pa_cons pe_bl (pa_cons pe_int (pa_cons pe_str (pa_cons pe_str (pa_cons (pe_lst pa_nil) (pa_cons pe_dnewK (pa_cons (pe_tup pa_nil) (pa_cons (pe_lst (pa_cons (pv 10) pa_nil)) (pa_cons (pe_tup (pa_cons (pv 10) pa_nil)) (pa_cons (pe_disp (pps_cons (pv 10) pe_int pps_nil) rfl rfl (fun e => by cases e) (by decide)) (pa_cons (pe_op op_add_str (pv 10) pe_str) (pa_cons pe_str (pa_cons (pv 9) pa_nil))))))))))))))))
      (pss_cons (ps_if (pt_not (pt_val (Rl.pe_callG G_lrefused hg hr (by rfl) g_lrefused F_lrefused.kp b_lrefused .nil pass0 (pa_cons (pv 5) (pa_cons (pe_ix ix_list (pv 11) (pe_call G_draw hr1 (by rfl) g_draw F_draw.kp b_draw .nil pass0 (pa_cons (pv 0) (pa_cons pe_int pa_nil))) (fun _ _ => rfl)) pa_nil))))) (pss_one (ps_ret pe_bl)) pss_nil)
      (pss_cons (ps_asg (pe_call G_layered hr3 (by rfl) g_layered F_layered.kp b_layered .nil pass0 (pa_cons (pv 0) pa_nil)) (pg_tup rfl (pgs_cons (pg_name (i := 12) scLRight16.nd rfl (by first | exact .inl rfl | exact .inr rfl)) (pgs_cons (pg_name (i := 13) scLRight16.nd rfl (by first | exact .inl rfl | exact .inr rfl)) pgs_nil))))
      (pss_cons (ps_if (pt_not (pt_val (pe_call G_areTold hr7 (by rfl) g_areTold F_areTold.kp b_areTold .nil pass0 (pa_cons (pe_make MN G_nI hr6 (by rfl) T.mgC b_n v_n pass0 (pa_cons (pv 12) (pa_cons (pv 13) pa_nil))) (pa_cons (pe_call G_lways hr2 (by rfl) g_lways F_lways.kp b_lways .nil pass0 (pa_cons (pv 12) (pa_cons (pv 13) pa_nil))) pa_nil))))) (pss_one (ps_ret pe_bl)) pss_nil)
      (pss_one (ps_ret (pe_call G_areTold hr7 (by rfl) g_areTold F_areTold.kp b_areTold .nil pass0 (pa_cons (pv 5) (pa_cons (pv 7) pa_nil)))))))))))))))), ?_⟩
    -- the nets
    refine ⟨.ref p, rfl, p, 12, 60, rfl, hP, by decide, by decide, by decide, by decide, fun t a j Bw Pw H1 k1 hP1 nt na nj ht hA hJ good => ?_⟩
    refine ⟨t, [.ref a, .ref j], rfl, SqT.of ht, rfl, .ref a, [.ref j], rfl, .ref j, [], rfl, rfl, ?_⟩
    have ap := hP.ne na
    have jp := hP.ne nj
    have wf := good.wf
    refine ⟨.ref p, rfl, .ref a, rfl, p, a, Bw, Pw, rfl, hP1, hA, wf, fun t2 a2 j2 Po H2 k2 hP2 nt2 na2 nj2 ht2 hA2 hJ2 good2 => ?_⟩
    refine ⟨t2, [.ref a2, .ref j2], rfl, SqT.of ht2, rfl, .ref a2, [.ref j2], rfl, .ref j2, [], rfl, rfl, ?_⟩
    have hA := k2 a _ ap hA
    have hJ := k2 j _ jp hJ
    have k02 := k1.trans k2
    refine ⟨.ref a, rfl, .ref j, rfl, net_mk hA hJ good fun n1 B1 P1 H3 s3 nn1 N1 pB1 pP1 so1 st1 => ?_⟩
    refine ⟨.ref a2, rfl, .ref j2, rfl, net_mk (s3 _ _ hA2) (s3 _ _ hJ2) good2 fun n2 B2 P2 H4 s4 nn2 N2 pB2 pP2 so2 st2 => ?_⟩
    refine ⟨.ref n1, .ref n2, rfl, ?_⟩
    have s24 := s3.trans s4
    have N1 := N1.same s4
    have hA := s24 _ _ hA
    have hJ := s24 _ _ hJ
    have hA2 := s24 _ _ hA2
    have hJ2 := s24 _ _ hJ2
    have hP4 := hP2.same s24
    have k04 := k02.same s24
    -- the ways
    refine ⟨.ref a, rfl, .ref j, rfl, a, j, Bw, Pw, rfl, hA, hJ, good, fun H5 r1 W1 s5 nr1 hr1 nd1 mem1 wy1 nh1 => ?_⟩
    refine ⟨.ref a2, rfl, .ref j2, rfl, a2, j2, _, Po, rfl, s5 _ _ hA2, s5 _ _ hJ2, good2, fun H6 r2 W2 s6 nr2 hr2 nd2 mem2 wy2 nh2 => ?_⟩
    refine ⟨.ref r1, .ref r2, rfl, ?_⟩
    have hr1 := s6 _ _ hr1
    have wy1 := wy1.same s6
    have nr2 : H4 r2 = none := s5.free nr2
    have s46 := s5.trans s6
    have hA6 := s46 _ _ hA
    refine ⟨.ref r1, rfl, r1, wk W1, W1.map Prod.fst, rfl, .inl hr1, wk_keys W1, ?_, fun ys1 l1 pm1 sy1 nl1 => ?_⟩
    · have := len_le_of_sub nd1 (m := nms Bw) (fun x hx => (mem1 x).mp hx)
      rw [nms_len] at this
      have := wf.lb
      omega
    have s7 := same_new (o := .lst (ys1.map V.str)) nl1
    refine ⟨.ref a, rfl, a, bk Bw, nms Bw, rfl, .inl (s7 _ _ hA6), bk_keysN Bw, by rw [nms_len]; have := wf.lb; omega, fun ys2 l2 pm2 sy2 nl2 => ?_⟩
    have s8 := s7.trans (same_new (o := .lst (ys2.map V.str)) nl2)
    have l12 : l1 ≠ l2 := fun e => by rw [← e, upd_same] at nl2; cases nl2
    have hl1 : upd (upd H6 l1 (.lst (ys1.map V.str))) l2 (.lst (ys2.map V.str)) l1 = some (.lst (ys1.map V.str)) := by rw [upd_ne l12, upd_same]
    have hl2 : upd (upd H6 l1 (.lst (ys1.map V.str))) l2 (.lst (ys2.map V.str)) l2 = some (.lst (ys2.map V.str)) := upd_same
    obtain ⟨H8, eH8⟩ : ∃ X, X = upd (upd H6 l1 (.lst (ys1.map V.str))) l2 (.lst (ys2.map V.str)) := ⟨_, rfl⟩
    rw [← eH8] at s8 hl1 hl2 ⊢
    clear eH8 nl1 nl2 s7
    have ndW : (nms Bw).Nodup := wf.nb
    have e12 : ys1 = ys2 := sorted_uniq (pm1.trans (((List.perm_ext_iff_of_nodup nd1 ndW).mpr mem1).trans pm2.symm)) sy1 sy2
    subst e12
    have okY : ∀ z ∈ ys1, PyData.strOk z = true := fun z hz => (nm_in good (pm2.mem_iff.mp hz)).sm.strOk
    refine ⟨sD ys1, sD ys1, sD_dp hl1, sD_dp hl2, sD_shaped okY, sD_shaped okY, _, rfl, ?_⟩
    rw [sD_same]
    refine iteF ?_
    have hr1 := s8 _ _ hr1
    have hr2 := s8 _ _ hr2
    have s48 := s46.trans s8
    refine ⟨.ref n1, rfl, .ref r1, rfl, n1, r1, B1, P1, W1, H4, rfl, N1, nr1, s48, good.perm pB1.symm pP1.symm, st1, hr1, nd1, fun x hx => (pB1.map Prod.fst).mem_iff.mpr ((mem1 x).mp hx), (wy1.same s8).perm pB1.symm pP1.symm, fun H9 s9 => ?_⟩
    refine ⟨true, rfl, iteF ?_⟩
    refine ⟨.ref n2, rfl, .ref r2, rfl, n2, r2, B2, P2, W2, H4, rfl, N2, nr2, s48.trans s9, good2.perm pB2.symm pP2.symm, st2, s9 _ _ hr2, nd2, fun x hx => (pB2.map Prod.fst).mem_iff.mpr ((mem2 x).mp hx), (wy2.same (s8.trans s9)).perm pB2.symm pP2.symm, fun H10 s10 => ?_⟩
    refine ⟨true, rfl, iteF ?_⟩
    have s40 := s48.trans (s9.trans s10)
    have s80 := s9.trans s10
    have hP10 := hP4.same s40
    have hA10 := s40 _ _ hA
    have k010 := k04.same s40
    -- a fresh name, a near one
    have lW := wf.lb
    refine ⟨.ref p, rfl, .ref a, rfl, a, bk Bw, rfl, .inl hA10, fun l nl => ?_⟩
    rw [bk_listN]
    have lp := hP10.ne nl
    refine ⟨p, l, nms Bw, rfl, hP10.new nl, upd_same, by rw [nms_len]; omega, fun z hz => nm_in good hz, fun zf H11 nzf zB hl11 kp11 hP11 => ?_⟩
    have k1011 : Kp p H10 H11 := fun b o nb e => kp11 b o nb (ne_of_none e nl) (by rw [upd_ne (ne_of_none e nl)]; exact e)
    have hA11 := k1011 _ _ ap hA10
    have nl0 := nl
    refine ⟨.ref a, rfl, a, bk Bw, nms Bw, rfl, .inl hA11, bk_keysN Bw, by rw [nms_len]; omega, fun ys l3 pm3 sy3 nl3 => ?_⟩
    have s12 := same_new (o := .lst (ys.map V.str)) nl3
    have hl3 : upd H11 l3 (.lst (ys.map V.str)) l3 = some (.lst (ys.map V.str)) := upd_same
    refine ⟨.str zf, rfl, line1000 (by show 1 ≤ 1000; decide), fun l4 nl4 => ?_⟩
    have s13 := s12.trans (same_new (o := .lst [.str zf]) nl4)
    have l34 : l3 ≠ l4 := fun e => by rw [← e, upd_same] at nl4; cases nl4
    have lY : ys.length ≤ 12 := by rw [pm3.length_eq, nms_len]; omega
    refine ⟨l3, l4, _, _, rfl, rfl, by rw [upd_ne l34]; exact hl3, upd_same, line1000 (by rw [List.length_map]; show ys.length + 1 ≤ 1000; omega), fun l5 nl5 => ?_⟩
    have s14 := s13.trans (same_new (o := .lst (ys.map V.str ++ [.str zf])) nl5)
    have e5 : ys.map V.str ++ [V.str zf] = (ys ++ [zf]).map V.str := by rw [List.map_append]; rfl
    rw [e5] at s14 ⊢
    have hl5 : upd (upd (upd H11 l3 (.lst (ys.map V.str))) l4 (.lst [.str zf])) l5 (.lst ((ys ++ [zf]).map V.str)) l5 = some (.lst ((ys ++ [zf]).map V.str)) := upd_same
    have hP14 := hP11.same s14
    have k14 : Kp p H10 _ := k1011.same s14
    obtain ⟨H14, eH14⟩ : ∃ X, X = upd (upd (upd H11 l3 (.lst (ys.map V.str))) l4 (.lst [.str zf])) l5 (.lst ((ys ++ [zf]).map V.str)) := ⟨_, rfl⟩
    rw [← eH14] at hl5 hP14 k14 ⊢
    have l5p : l5 ≠ p := (hP11.same s13).ne nl5
    clear eH14 nl4 nl5 hl3 nl3 s12 s13 s14
    refine ⟨.ref p, rfl, .ref a, rfl, a, _, rfl, k14 _ _ ap hA10, _, _, rfl, rfl, p, _, rfl, hP14, by rw [bk_len]; omega, by rw [bk_len]; omega, fun d H15 k15 hP15 d0 d1 => ?_⟩
    rw [bk_len] at d1
    have lYW : ys.length = Bw.length := by rw [pm3.length_eq, nms_len]
    obtain ⟨near, hnear⟩ : ∃ near, (ys ++ [zf])[d.toNat]? = some near := ⟨_, List.getElem?_eq_getElem (by rw [List.length_append]; show _ < ys.length + 1; omega)⟩
    have nmNear : Nm near := by
      rcases List.mem_append.mp (List.mem_of_getElem? hnear) with h | h
      · exact nm_in good (pm3.mem_iff.mp h)
      · rw [List.mem_singleton.mp h]; exact nzf
    refine ⟨l5, _, d, .str near, rfl, rfl, SqL.of (k15 _ _ l5p hl5), ?_, ?_⟩
    · rw [show d = ((d.toNat : Nat) : Int) by omega]
      exact atI_nat (by rw [List.getElem?_map, hnear]; rfl)
    have k1015 := k14.trans k15
    clear k15 hP14 k14 hl5 hl11 kp11
    -- what is no pond
    have smN : Sm 25 near := nmNear.sm.mono (by decide)
    refine ⟨Nat.zero_le _, fun o1 m1 => ?_⟩
    obtain ⟨G1, eG1, g1, ho1⟩ := laid_new (o := .lst []) m1
    rw [← eG1]; clear eG1
    refine fun o2 m2 => ?_
    obtain ⟨G2, eG2, g2, ho2⟩ := laid_new (o := .dK []) m2
    rw [← eG2]; clear eG2
    refine ⟨Nat.zero_le _, fun o3 m3 => ?_⟩
    obtain ⟨G3, eG3, g3, ho3⟩ := laid_new (o := .tup []) m3
    rw [← eG3]; clear eG3
    refine ⟨.str near, rfl, line1000 (by show 1 ≤ 1000; decide), fun o4 m4 => ?_⟩
    obtain ⟨G4, eG4, g4, ho4⟩ := laid_new (o := .lst [.str near]) m4
    rw [← eG4]; clear eG4
    refine ⟨.str near, rfl, line1000 (by show 1 ≤ 1000; decide), fun o5 m5 => ?_⟩
    obtain ⟨G5, eG5, g5, ho5⟩ := laid_new (o := .tup [.str near]) m5
    rw [← eG5]; clear eG5
    refine fun o6 m6 => ⟨.str near, rfl, upd_same, [((Sum.inr near : Key), V.int 1)], rfl, (by show 1 ≤ 15; decide), ?_⟩
    have em6 : mergeK [] [((Sum.inr near : Key), V.int 1)] = [((Sum.inr near : Key), V.int 1)] := rfl
    rw [em6]
    obtain ⟨G6, eG6, g6, ho6⟩ : ∃ X, X = upd (upd G5 o6 (.dK [])) o6 (.dK [((Sum.inr near : Key), V.int 1)]) ∧ Same G5 X ∧ X o6 = some (.dK [((Sum.inr near : Key), V.int 1)]) := ⟨_, rfl, fun b o e => by rw [upd_ne (ne_of_none e m6), upd_ne (ne_of_none e m6)]; exact e, upd_same⟩
    rw [← eG6]; clear eG6
    refine ⟨.str near, rfl, near, "?", rfl, rfl, line1000 (by have := nmNear.sm.1; have : ("?" : Str).length = 1 := (by decide +kernel); omega), .str zf, rfl, line1000 (by show 14 ≤ 1000; decide), fun o7 m7 => ?_⟩
    obtain ⟨G7, eG7, g7, ho7⟩ := laid_new (o := .lst [.non, .bl true, .int 0, .str "", .str "Zz", .ref o1, .ref o2, .ref o3, .ref o4, .ref o5, .ref o6, .str (near ++ ("?" : Str)), .str "abcdefghi", .str zf]) m7
    rw [← eG7]; clear eG7
    have g67 : Same G6 G7 := g7
    have g57 := g6.trans g67
    have g47 := g5.trans g57
    have g37 := g4.trans g47
    have g27 := g3.trans g37
    have g17 := g2.trans g27
    have g07 := g1.trans g17
    have hP16 := hP15.same g07
    have k16 := k1015.same g07
    have o1p := hP15.ne m1
    have o2p := (hP15.same g1).ne m2
    have o3p := (hP15.same (g1.trans g2)).ne m3
    have o4p := (hP15.same (g1.trans (g2.trans g3))).ne m4
    have o5p := (hP15.same (g1.trans (g2.trans (g3.trans g4)))).ne m5
    have o6p := (hP15.same (g1.trans (g2.trans (g3.trans (g4.trans g5))))).ne m6
    have o7p : o7 ≠ p := (hP15.same (g1.trans (g2.trans (g3.trans (g4.trans (g5.trans g6)))))).ne m7
    have n1G := N1.same s40
    -- refused
    refine ⟨.ref n1, rfl, .ref o7, rfl, .ref p, rfl, p, 14, rfl, hP16, by decide, by decide, fun d2 H17 k17 hP17 d20 d21 => ?_⟩
    obtain ⟨q1, q2, q3⟩ := OddOk.of3 (K := K) (H := H17) (B := B1)
    obtain ⟨q4, q5⟩ := ask_no nmNear
    have zfB : zf ∉ nms B1 := fun h => zB ((pB1.map Prod.fst).mem_iff.mp h)
    have all : ∀ (i : Nat) (v : V), [V.non, .bl true, .int 0, .str "", .str "Zz", .ref o1, .ref o2, .ref o3, .ref o4, .ref o5, .ref o6, .str (near ++ ("?" : Str)), .str "abcdefghi", .str zf][i]? = some v → OddOk K H17 B1 v := fun i v e => by
      have m := List.mem_of_getElem? e
      simp only [List.mem_cons, List.not_mem_nil, or_false] at m
      rcases m with rfl | rfl | rfl | rfl | rfl | rfl | rfl | rfl | rfl | rfl | rfl | rfl | rfl | rfl
      · exact .non
      · exact .tru
      · exact .zer
      · exact q1
      · exact q2
      · exact .lst0 (k17 _ _ o1p (g17 _ _ ho1))
      · exact .dic0 (k17 _ _ o2p (g27 _ _ ho2))
      · exact .tup0 (k17 _ _ o3p (g37 _ _ ho3))
      · exact .lst1 (k17 _ _ o4p (g47 _ _ ho4)) smN
      · exact .tup1 (k17 _ _ o5p (g57 _ _ ho5)) smN
      · exact .dic1 (k17 _ _ o6p (g67 _ _ ho6)) smN
      · exact .str q4 (by rw [q5]; rfl)
      · exact q3
      · exact .str (nzf.sm.mono (by decide)) (by rw [decide_eq_false zfB, Bool.and_false])
    obtain ⟨v, hv⟩ : ∃ v, [V.non, .bl true, .int 0, .str "", .str "Zz", .ref o1, .ref o2, .ref o3, .ref o4, .ref o5, .ref o6, .str (near ++ ("?" : Str)), .str "abcdefghi", .str zf][d2.toNat]? = some v := ⟨_, List.getElem?_eq_getElem (by show d2.toNat < 14; omega)⟩
    obtain ⟨no, dd, dy, sh⟩ := all _ v hv
    refine ⟨o7, _, d2, v, rfl, rfl, SqL.of (k17 _ _ o7p ho7), ?_, ?_⟩
    · rw [show d2 = ((d2.toNat : Nat) : Int) by omega]
      exact atI_nat hv
    have k017 := k010.trans (k16.trans k17)
    refine ⟨n1, B1, P1, v, dd, rfl, ((N1.same s40).kp hP10 (k16.trans k17)), no, dy, sh, fun H18 s18 => ?_⟩
    refine ⟨true, rfl, iteF ?_⟩
    have hP18 := hP17.same s18
    -- the layers
    refine ⟨.ref p, rfl, p, rfl, hP18, fun t5 a5 j5 ns P5 H19 k19 hP19 nt5 na5 nj5 ht5 hA5 hJ5 good5 => ?_⟩
    refine ⟨t5, [.ref a5, .ref j5], rfl, SqT.of ht5, rfl, .ref a5, [.ref j5], rfl, .ref j5, [], rfl, rfl, ?_⟩
    refine ⟨.ref a5, rfl, .ref j5, rfl, ?_⟩
    refine net_mk hA5 hJ5 good5 fun n5 B5 P5' H20 s20 nn5 N5 pB5 pP5 so5 st5 => ?_
    refine ⟨.ref a5, rfl, .ref j5, rfl, a5, j5, _, P5, rfl, s20 _ _ hA5, s20 _ _ hJ5, good5, fun H21 r5 W5 s21 nr5 hr5 nd5 mem5 wy5 nh5 => ?_⟩
    refine ⟨n5, r5, B5, P5', W5, H20, rfl, N5, nr5, s21, good5.perm pB5.symm pP5.symm, st5, hr5, nd5, fun x hx => (pB5.map Prod.fst).mem_iff.mpr ((mem5 x).mp hx), wy5.perm pB5.symm pP5.symm, fun H22 s22 => ?_⟩
    refine ⟨true, rfl, iteF ?_⟩
    -- once more
    have k422 : Kp p H10 H22 := ((k16.trans k17).same s18).trans (k19.same (s20.trans (s21.trans s22)))
    have hP22 := hP19.same (s20.trans (s21.trans s22))
    have k4 : Kp p H4 H22 := (Kp.of_same (p := p) s40).trans k422
    have r1p : r1 ≠ p := hP4.ne nr1
    obtain ⟨H0, eH0⟩ : ∃ X : Hp, X = fun x => if x = p then H22 p else H4 x := ⟨_, rfl⟩
    have h0p : H0 p = H22 p := by rw [eH0]; exact if_pos rfl
    have h0n : ∀ x, x ≠ p → H0 x = H4 x := fun x nx => by rw [eH0]; exact if_neg nx
    have N0 : NetAt C H0 n1 B1 P1 := N1.kp hP4 fun x o nx e => by rw [h0n x nx]; exact e
    refine ⟨.ref n1, rfl, .ref r1, rfl, n1, r1, B1, P1, W1, H0, rfl, N0, by rw [h0n r1 r1p]; exact nr1, fun x o e => ?_, good.perm pB1.symm pP1.symm, st1, k422 _ _ r1p (s80 _ _ hr1), nd1, fun x hx => (pB1.map Prod.fst).mem_iff.mpr ((mem1 x).mp hx), fun u hu' => ?_, fun H23 s23 => ?_⟩
    · by_cases xp : x = p
      · rw [xp] at e ⊢; rw [← h0p]; exact e
      · rw [h0n x xp] at e; exact k4 x o xp e
    · obtain ⟨L, h1, h2⟩ := (wy1.same (s8.trans s80)).perm pB1.symm pP1.symm u hu'
      exact ⟨L, k422 _ _ (hP4.ne (nh1 u hu')) h1, h2⟩
    · exact q _ ((k04.trans k4).same s23)
end
end Nl
end
section
set_option maxHeartbeats 4000000
namespace Nl
open PySem PySem.Spec PyProof.Rows L2 Nt
section
variable {P : Program} {w : World} {K : PySem.W.Frag} {mg : Str → Option Value} {base : Heap}
def spLaw (K : PySem.W.Frag) : Sp := fun vs H Q _ => ∃ (a : Addr) (ns : List Int), vs = [.ref a] ∧ SqL K H a (ns.map V.int) ∧ ns.length ≤ 63 ∧ ∀ H', Q (.bl true) H'
theorem scLaw : FnScope ["_law_script", "_law_k"] ["_law_script"] (defScope sLaw) := ⟨rfl, rfl, rfl, by decide +kernel, rfl, by decide +kernel, by decide +kernel⟩
theorem ok_law {f f_pot f_lright C : Addr} {fd fd_pot fd_lright : FuncData} (F : Fun K "law" "law" sLaw f fd) (T : TxN K mg C)
    (F_pot : Fun K "_law_pot" "_law_pot" sPot f_pot fd_pot) (G_pot : FnOk P w K mg base CX0 1 f_pot fd_pot ["_law_script", "_law_k"] (spPot K)) (b_pot : Binds K fd_pot ["_law_script", "_law_k"] []) (g_pot : mg "_law_pot" = some (.ref f_pot))
    (F_lright : Fun K "_law_right" "_law_right" sRight f_lright fd_lright) (G_lright : Rl.FnG P w K mg base CX0 9 f_lright fd_lright ["_law_pot_here"] spLRight) (b_lright : Binds K fd_lright ["_law_pot_here"] []) (g_lright : mg "_law_right" = some (.ref f_lright))
    (x_len : mg "len" = none)
    (x_max : mg "max" = none)
    (x_min : mg "min" = none)
    (x_range : mg "range" = none) : Rl.FnG P w K mg base CX0 10 f fd ["_law_script"] (spLaw K) := by
  refine Rl.okG F scLaw (fun vs H Q E h => ?_) (fun cdv A outer s H vs Q E hg hr h => ?_)
  · obtain ⟨a, ns, rfl, _⟩ := h
    rfl
  · obtain ⟨a0, ns, rfl, hS, hlen, q⟩ := h
    have hr1 := hr.mono (show 1 ≤ 9 by decide)
    refine ⟨_, (pss_cons (ps_for PassesOwn.never rfl (pi_range1 (by rfl) x_range (pa_cons (pe_callB (call_max2 rfl) (by rfl) x_max (by decide +kernel) (pa_cons pe_int (pa_cons (pe_callB (call_min2 rfl) (by rfl) x_min (by decide +kernel) (pa_cons pe_int (pa_cons (pe_callB call_len_seq (by rfl) x_len PySem.boot_len (pa_cons (pv 0) pa_nil)) pa_nil))) pa_nil))) pa_nil)) (pg_name (i := 1) scLaw.nd rfl (by first | exact .inl rfl | exact .inr rfl))
        (pss_one (ps_if (pt_not (pt_val (Rl.pe_callG G_lright hg hr (by rfl) g_lright F_lright.kp b_lright .nil pass0 (pa_cons (pe_call G_pot hr1 (by rfl) g_pot F_pot.kp b_pot .nil pass0 (pa_cons (pv 0) (pa_cons (pv 1) pa_nil))) pa_nil)))) (pss_one (ps_ret pe_bl)) pss_nil)))
      (pss_one (ps_ret pe_bl))), ?_⟩
    refine ⟨.ref a0, rfl, a0, _, rfl, .inl hS, 5, _, rfl, 1, _, rfl, _, rfl, ?_, ?_, ?_⟩
    · split <;> split <;> omega
    · split <;> split <;> omega
    refine for_it walk_range (fun i σ H2 => ∃ y1 : Option V, σ = [some (.ref a0), y1] ∧ Same H H2) ⟨none, rfl, Same.refl _⟩ (fun _ _ _ _ _ => trivial) ?_ ?_
    · rintro i x σ H2 H2' hi ⟨y1, rfl, sm⟩ ⟨rfl, rfl⟩
      have hi8 : i < 63 := by
        split at hi <;> split at hi <;> omega
      refine ⟨.ref a0, rfl, .int (0 + (i : Int)), rfl, a0, ns, _, rfl, sm.seq hS, by omega, by omega, fun H3 p s3 np hP3 => ?_⟩
      have npH : H p = none := sm.free np
      have s03 := sm.trans s3
      refine ⟨p, rfl, hP3, fun H4 k4 => ?_⟩
      refine ⟨true, rfl, iteF ?_⟩
      exact ⟨_, rfl, fun b o e => k4 b o (ne_of_none e npH) (s03 b o e)⟩
    rintro σ H2 ⟨y1, rfl, sm⟩
    exact q _
end
end Nl
end
section
set_option maxHeartbeats 1000000
namespace Nl
open PySem PySem.Spec PyProof.Rows L2 Nt
theorem fun_ofD {K : PySem.W.Frag} {x qual : Str} {st : Stmt} {f : Addr} {fd : FuncData} (F : FunD K x qual (defArgs st) (defBody st) (defScope st) [] [] f fd) : Fun K x qual st f fd := by
  obtain ⟨oc, od, dV, kV, doc, pm, an, cdv, ct, osl, rfl, lk, hcd, hD, hK⟩ := F.ex
  rcases hD with ⟨_, rfl⟩ | ⟨e, _⟩
  · exact ⟨⟨oc, od, kV, doc, pm, an, cdv, ct, osl, rfl, lk, hcd⟩, F.kp⟩
  · exact absurd rfl e
theorem all_test {l : PySem.W.OpenLaw} {w : World} {K : PySem.W.Frag} {h : Heap} {mg : Str → Option Value} {C : Addr}
    {f_whole : Addr} {fd_whole : FuncData}
    {f_name : Addr} {fd_name : FuncData}
    {f_meas : Addr} {fd_meas : FuncData}
    {f_pondOf : Addr} {fd_pondOf : FuncData}
    {f_pairOf : Addr} {fd_pairOf : FuncData}
    {f_goes : Addr} {fd_goes : FuncData}
    {f_comes : Addr} {fd_comes : FuncData}
    {f_steps : Addr} {fd_steps : FuncData}
    {f_pOut : Addr} {fd_pOut : FuncData}
    {f_pIn : Addr} {fd_pIn : FuncData}
    {f_ckPonds : Addr} {fd_ckPonds : FuncData}
    {f_ckPipes : Addr} {fd_ckPipes : FuncData}
    {f_ckSides : Addr} {fd_ckSides : FuncData}
    {f_ckWays : Addr} {fd_ckWays : FuncData}
    {f_pot : Addr} {fd_pot : FuncData}
    {f_draw : Addr} {fd_draw : FuncData}
    {f_lname : Addr} {fd_lname : FuncData}
    {f_closed : Addr} {fd_closed : FuncData}
    {f_room : Addr} {fd_room : FuncData}
    {f_lnet : Addr} {fd_lnet : FuncData}
    {f_wayOut : Addr} {fd_wayOut : FuncData}
    {f_lways : Addr} {fd_lways : FuncData}
    {f_areTold : Addr} {fd_areTold : FuncData}
    {f_lrefused : Addr} {fd_lrefused : FuncData}
    {f_lother : Addr} {fd_lother : FuncData}
    {f_layered : Addr} {fd_layered : FuncData}
    {f_lright : Addr} {fd_lright : FuncData}
    {f_law : Addr} {fd_law : FuncData}
    {f_has : Addr} {fd_has : FuncData}
    {f_chk : Addr} {fd_chk : FuncData}
    {f_ponds : Addr} {fd_ponds : FuncData}
    {f_brim : Addr} {fd_brim : FuncData}
    {f_brims : Addr} {fd_brims : FuncData}
    {f_pipes : Addr} {fd_pipes : FuncData}
    {f_outs : Addr} {fd_outs : FuncData}
    {f_nI : Addr} {fd_nI : FuncData}
    {CR f_CR cda_CR cc_CR : Addr} {fd_CR : FuncData}
    {tk_0 : Tok}
    {tk_1 : Tok}
    {tk_2 : Tok}
    {tk_3 : Tok}
    (F_whole : Fun K "is_whole" "is_whole" sWhole f_whole fd_whole) (g_whole : mg "is_whole" = some (.ref f_whole))
    (F_name : Fun K "is_name" "is_name" sName f_name fd_name) (g_name : mg "is_name" = some (.ref f_name))
    (F_meas : Fun K "is_measure" "is_measure" sMeas f_meas fd_meas) (g_meas : mg "is_measure" = some (.ref f_meas))
    (F_pondOf : Fun K "is_pond_of" "is_pond_of" sPondOf f_pondOf fd_pondOf) (g_pondOf : mg "is_pond_of" = some (.ref f_pondOf))
    (F_pairOf : Fun K "is_pair_of" "is_pair_of" sPairOf f_pairOf fd_pairOf) (g_pairOf : mg "is_pair_of" = some (.ref f_pairOf))
    (F_goes : Fun K "goes_out" "goes_out" sGoes f_goes fd_goes) (g_goes : mg "goes_out" = some (.ref f_goes))
    (F_comes : Fun K "comes_in" "comes_in" sComes f_comes fd_comes) (g_comes : mg "comes_in" = some (.ref f_comes))
    (F_steps : Fun K "steps_out" "steps_out" sSteps f_steps fd_steps) (g_steps : mg "steps_out" = some (.ref f_steps))
    (F_pOut : Fun K "pipes_out" "pipes_out" sPipesOut f_pOut fd_pOut) (g_pOut : mg "pipes_out" = some (.ref f_pOut))
    (F_pIn : Fun K "pipes_in" "pipes_in" sPipesIn f_pIn fd_pIn) (g_pIn : mg "pipes_in" = some (.ref f_pIn))
    (F_ckPonds : Fun K "check_ponds" "check_ponds" sCkPonds f_ckPonds fd_ckPonds) (g_ckPonds : mg "check_ponds" = some (.ref f_ckPonds))
    (F_ckPipes : Fun K "check_pipes" "check_pipes" sCkPipes f_ckPipes fd_ckPipes) (g_ckPipes : mg "check_pipes" = some (.ref f_ckPipes))
    (F_ckSides : Fun K "check_sides" "check_sides" sCkSides f_ckSides fd_ckSides) (g_ckSides : mg "check_sides" = some (.ref f_ckSides))
    (F_ckWays : Fun K "check_ways" "check_ways" sCkWays f_ckWays fd_ckWays) (g_ckWays : mg "check_ways" = some (.ref f_ckWays))
    (F_pot : Fun K "_law_pot" "_law_pot" sPot f_pot fd_pot) (g_pot : mg "_law_pot" = some (.ref f_pot))
    (F_draw : Fun K "_law_draw" "_law_draw" sDraw f_draw fd_draw) (g_draw : mg "_law_draw" = some (.ref f_draw))
    (F_lname : Fun K "_law_name" "_law_name" sLName f_lname fd_lname) (g_lname : mg "_law_name" = some (.ref f_lname))
    (F_closed : Fun K "_law_closed" "_law_closed" sClosed f_closed fd_closed) (g_closed : mg "_law_closed" = some (.ref f_closed))
    (F_room : Fun K "_law_room" "_law_room" sRoom f_room fd_room) (g_room : mg "_law_room" = some (.ref f_room))
    (F_lnet : Fun K "_law_net" "_law_net" sNet f_lnet fd_lnet) (g_lnet : mg "_law_net" = some (.ref f_lnet))
    (F_wayOut : Fun K "way_out" "way_out" s_way_out f_wayOut fd_wayOut) (g_wayOut : mg "way_out" = some (.ref f_wayOut))
    (F_lways : Fun K "_law_ways" "_law_ways" s_law_ways f_lways fd_lways) (g_lways : mg "_law_ways" = some (.ref f_lways))
    (F_areTold : Fun K "_law_are_told" "_law_are_told" s_law_are_told f_areTold fd_areTold) (g_areTold : mg "_law_are_told" = some (.ref f_areTold))
    (F_lrefused : Fun K "_law_refused" "_law_refused" sRefused f_lrefused fd_lrefused) (g_lrefused : mg "_law_refused" = some (.ref f_lrefused))
    (F_lother : Fun K "_law_other" "_law_other" s_law_other f_lother fd_lother) (g_lother : mg "_law_other" = some (.ref f_lother))
    (F_layered : Fun K "_law_layered" "_law_layered" s_law_layered f_layered fd_layered) (g_layered : mg "_law_layered" = some (.ref f_layered))
    (F_lright : Fun K "_law_right" "_law_right" sRight f_lright fd_lright) (g_lright : mg "_law_right" = some (.ref f_lright))
    (F_law : FunD K "law" "law" (defArgs sLaw) (defBody sLaw) (defScope sLaw) [] [] f_law fd_law) (g_law : mg "law" = some (.ref f_law))
    (F_has : Fun K "has_pond" "Net.has_pond" mNet_has_pond f_has fd_has) (m_has : Meth K C "has_pond" f_has)
    (F_chk : Fun K "check_pond" "Net.check_pond" mNet_check_pond f_chk fd_chk) (m_chk : Meth K C "check_pond" f_chk)
    (F_ponds : Fun K "ponds" "Net.ponds" mNet_ponds f_ponds fd_ponds) (m_ponds : Meth K C "ponds" f_ponds)
    (F_brim : Fun K "brim" "Net.brim" mNet_brim f_brim fd_brim) (m_brim : Meth K C "brim" f_brim)
    (F_brims : Fun K "brims" "Net.brims" mNet_brims f_brims fd_brims) (m_brims : Meth K C "brims" f_brims)
    (F_pipes : Fun K "pipes" "Net.pipes" mNet_pipes f_pipes fd_pipes) (m_pipes : Meth K C "pipes" f_pipes)
    (F_outs : Fun K "outs" "Net.outs" mNet_outs f_outs fd_outs) (m_outs : Meth K C "outs" f_outs)
    (F_nI : FunD K "__init__" "Net.__init__" (defArgs mNet_init) (defBody mNet_init) (defScope mNet_init) [.non] [] f_nI fd_nI) (MN : Mk K C f_nI)
    (T : TxN K mg C)
    (X_CR : Rl.SuX l.prog K mg CR f_CR xNoPond "NoPond.__init__" fd_CR cda_CR cc_CR) (g_CR : mg "NoPond" = some (.ref CR))
    (k_sys : (List.lookup sysModules K).isSome = true)
    (n_CR : PySem.W.findIn K (.ref CR) "name" = some none)
    (xc_CR : Rl.xcB K CR = true)
    (e_CR : PySem.W.exmOne K (.ref CR) (.ref CR) = some true)
    (x_isinstance : mg "isinstance" = none)
    (x_int : mg "int" = none)
    (x_bool : mg "bool" = none)
    (x_str : mg "str" = none)
    (x_len : mg "len" = none)
    (x_all : mg "all" = none)
    (x_tuple : mg "tuple" = none)
    (x_sum : mg "sum" = none)
    (x_sorted : mg "sorted" = none)
    (x_dict : mg "dict" = none)
    (x_list : mg "list" = none)
    (x_divmod : mg "divmod" = none)
    (x_max : mg "max" = none)
    (x_abs : mg "abs" = none)
    (x_range : mg "range" = none)
    (x_min : mg "min" = none)
    (x_reversed : mg "reversed" = none)
    (x_repr : mg "repr" = none)
    (x_super : mg "super" = none)
    (w_0 : mg "MOST_LETTERS" = some (.int 8 tk_0))
    (w_1 : mg "LETTERS" = some (.str abc tk_1))
    (w_2 : mg "MOST_BRIM" = some (.int 60 tk_2))
    (w_3 : mg "MOST_PONDS" = some (.int 12 tk_3)) :
    ∃ fd : FuncData, (∀ (s : Shared) (v : Value), BindsTo s fd ⟨[v], []⟩ [("_law_script", v)]) ∧ ∀ base : Heap, K.In base → base.Ns mainGlobals mg → Rl.FnG l.prog w K mg base CX0 10 f_law fd ["_law_script"] (spLaw K) := by
  have FD_law := F_law
  have F_law := fun_ofD F_law
  have b_whole := F_whole.binds (ps := ["thing", "least"]) fun _ _ _ _ _ _ us hl => match us, hl with | [_, _], _ => rfl
  have b_name := F_name.binds (ps := ["thing"]) fun _ _ _ _ _ _ us hl => match us, hl with | [_], _ => rfl
  have b_meas := F_meas.binds (ps := ["thing"]) fun _ _ _ _ _ _ us hl => match us, hl with | [_], _ => rfl
  have b_pondOf := F_pondOf.binds (ps := ["brims", "thing"]) fun _ _ _ _ _ _ us hl => match us, hl with | [_, _], _ => rfl
  have b_pairOf := F_pairOf.binds (ps := ["brims", "thing"]) fun _ _ _ _ _ _ us hl => match us, hl with | [_, _], _ => rfl
  have b_goes := F_goes.binds (ps := ["pipes", "name"]) fun _ _ _ _ _ _ us hl => match us, hl with | [_, _], _ => rfl
  have b_comes := F_comes.binds (ps := ["pipes", "name"]) fun _ _ _ _ _ _ us hl => match us, hl with | [_, _], _ => rfl
  have b_steps := F_steps.binds (ps := ["brims", "pipes"]) fun _ _ _ _ _ _ us hl => match us, hl with | [_, _], _ => rfl
  have b_pOut := F_pOut.binds (ps := ["pipes", "name"]) fun _ _ _ _ _ _ us hl => match us, hl with | [_, _], _ => rfl
  have b_pIn := F_pIn.binds (ps := ["pipes", "name"]) fun _ _ _ _ _ _ us hl => match us, hl with | [_, _], _ => rfl
  have b_ckPonds := F_ckPonds.binds (ps := ["brims"]) fun _ _ _ _ _ _ us hl => match us, hl with | [_], _ => rfl
  have b_ckPipes := F_ckPipes.binds (ps := ["brims", "pipes"]) fun _ _ _ _ _ _ us hl => match us, hl with | [_, _], _ => rfl
  have b_ckSides := F_ckSides.binds (ps := ["brims", "pipes"]) fun _ _ _ _ _ _ us hl => match us, hl with | [_, _], _ => rfl
  have b_ckWays := F_ckWays.binds (ps := ["brims", "pipes"]) fun _ _ _ _ _ _ us hl => match us, hl with | [_, _], _ => rfl
  have b_pot := F_pot.binds (ps := ["_law_script", "_law_k"]) fun _ _ _ _ _ _ us hl => match us, hl with | [_, _], _ => rfl
  have b_draw := F_draw.binds (ps := ["_law_pot_here", "_law_many"]) fun _ _ _ _ _ _ us hl => match us, hl with | [_, _], _ => rfl
  have b_lname := F_lname.binds (ps := ["_law_pot_here", "_law_taken"]) fun _ _ _ _ _ _ us hl => match us, hl with | [_, _], _ => rfl
  have b_closed := F_closed.binds (ps := ["_law_brims", "_law_pipes"]) fun _ _ _ _ _ _ us hl => match us, hl with | [_, _], _ => rfl
  have b_room := F_room.binds (ps := ["_law_brims", "_law_pipes", "_law_one", "_law_other_here"]) fun _ _ _ _ _ _ us hl => match us, hl with | [_, _, _, _], _ => rfl
  have b_lnet := F_lnet.binds (ps := ["_law_pot_here", "_law_most", "_law_high"]) fun _ _ _ _ _ _ us hl => match us, hl with | [_, _, _], _ => rfl
  have b_wayOut := F_wayOut.binds (ps := ["net", "name"]) fun _ _ _ _ _ _ us hl => match us, hl with | [_, _], _ => rfl
  have b_lways := F_lways.binds (ps := ["_law_brims", "_law_pipes"]) fun _ _ _ _ _ _ us hl => match us, hl with | [_, _], _ => rfl
  have b_areTold := F_areTold.binds (ps := ["_law_net_here", "_law_ways_here"]) fun _ _ _ _ _ _ us hl => match us, hl with | [_, _], _ => rfl
  have b_lrefused := F_lrefused.binds (ps := ["_law_net_here", "_law_thing"]) fun _ _ _ _ _ _ us hl => match us, hl with | [_, _], _ => rfl
  have b_lother := F_lother.binds (ps := ["_law_pot_here", "_law_brims"]) fun _ _ _ _ _ _ us hl => match us, hl with | [_, _], _ => rfl
  have b_layered := F_layered.binds (ps := ["_law_pot_here"]) fun _ _ _ _ _ _ us hl => match us, hl with | [_], _ => rfl
  have b_lright := F_lright.binds (ps := ["_law_pot_here"]) fun _ _ _ _ _ _ us hl => match us, hl with | [_], _ => rfl
  have b_law := F_law.binds (ps := ["_law_script"]) fun _ _ _ _ _ _ us hl => match us, hl with | [_], _ => rfl
  have b_has := F_has.binds (ps := ["self", "thing"]) fun _ _ _ _ _ _ us hl => match us, hl with | [_, _], _ => rfl
  have b_chk := F_chk.binds (ps := ["self", "thing"]) fun _ _ _ _ _ _ us hl => match us, hl with | [_, _], _ => rfl
  have b_ponds := F_ponds.binds (ps := ["self"]) fun _ _ _ _ _ _ us hl => match us, hl with | [_], _ => rfl
  have b_brim := F_brim.binds (ps := ["self", "name"]) fun _ _ _ _ _ _ us hl => match us, hl with | [_, _], _ => rfl
  have b_brims := F_brims.binds (ps := ["self"]) fun _ _ _ _ _ _ us hl => match us, hl with | [_], _ => rfl
  have b_pipes := F_pipes.binds (ps := ["self"]) fun _ _ _ _ _ _ us hl => match us, hl with | [_], _ => rfl
  have b_outs := F_outs.binds (ps := ["self", "name"]) fun _ _ _ _ _ _ us hl => match us, hl with | [_, _], _ => rfl
  have b_CR := X_CR.binds (ps := ["self", "name"]) fun _ _ _ _ _ us hl => match us, hl with | [_, _], _ => rfl
  obtain ⟨ds_n, v_n, b_n⟩ := F_nI.binds1 (ps := ["self", "brims", "pipes"]) 3 1 (by simp) rfl (fun T kV doc pm an cdv ct us its hu hi => match us, its, hu, hi with | [_, _, _], [_], _, _ => ⟨_, rfl, rfl⟩)
  obtain ⟨ds_n1, v_n1, b_n1⟩ := F_nI.binds1 (ps := ["self", "brims", "pipes"]) 2 0 (by simp) rfl (fun T kV doc pm an cdv ct us its hu hi => match us, its, hu, hi with | [_, _], [_], _, _ => ⟨_, rfl, rfl⟩)
  have v_n1 : Vals [.non] ds_n1 := v_n1
  obtain ⟨xe_CR, xf_CR⟩ := Rl.xcB_ok xc_CR
  have v_n : Vals [] ds_n := v_n
  have bA := FD_law.bindsA (ps := ["_law_script"]) fun _ _ _ _ _ _ us hl => match us, hl with | [_], _ => rfl
  refine ⟨fd_law, fun s v => bA s [v] rfl, fun base _ _ => ?_⟩
  have G_whole : FnOk l.prog w K mg base CX0 1 f_whole _ ["thing", "least"] spWhole := ok_whole F_whole x_isinstance x_int x_bool
  have G_name : FnOk l.prog w K mg base CX0 1 f_name _ ["thing"] spName := ok_name F_name x_isinstance x_str x_len x_all w_0 w_1
  have G_meas : FnOk l.prog w K mg base CX0 2 f_meas _ ["thing"] spMeas := ok_meas F_meas F_whole G_whole b_whole g_whole w_2
  have G_pondOf : FnOk l.prog w K mg base CX0 2 f_pondOf _ ["brims", "thing"] spPondOf := ok_pondOf F_pondOf F_name G_name b_name g_name
  have G_pairOf : FnOk l.prog w K mg base CX0 3 f_pairOf _ ["brims", "thing"] spPairOf := ok_pairOf F_pairOf F_pondOf G_pondOf b_pondOf g_pondOf x_isinstance x_tuple x_len
  have G_goes : FnOk l.prog w K mg base CX0 1 f_goes _ ["pipes", "name"] spGoes := ok_goes F_goes x_sum
  have G_comes : FnOk l.prog w K mg base CX0 1 f_comes _ ["pipes", "name"] spComes := ok_comes F_comes x_sum
  have G_steps : FnOk l.prog w K mg base CX0 2 f_steps _ ["brims", "pipes"] spSteps := ok_steps F_steps F_goes G_goes b_goes g_goes x_sorted
  have G_ckPonds : FnOk l.prog w K mg base CX0 3 f_ckPonds _ ["brims"] spCkPonds := ok_ckPonds F_ckPonds F_name G_name b_name g_name F_meas G_meas b_meas g_meas x_len w_3
  have G_ckPipes : FnOk l.prog w K mg base CX0 4 f_ckPipes _ ["brims", "pipes"] (spCk2 fun _ _ => True) := ok_ckPipes F_ckPipes F_pairOf G_pairOf b_pairOf g_pairOf F_meas G_meas b_meas g_meas
  have G_ckSides : FnOk l.prog w K mg base CX0 2 f_ckSides _ ["brims", "pipes"] (spCk2 Fit) := ok_ckSides F_ckSides F_goes G_goes b_goes g_goes F_comes G_comes b_comes g_comes x_sorted
  have G_ckWays : FnOk l.prog w K mg base CX0 3 f_ckWays _ ["brims", "pipes"] (spCk2 fun B Pp => ∀ x ∈ nms B, Opn B Pp x) := ok_ckWays F_ckWays F_steps G_steps b_steps g_steps x_sorted
  have G_pOut : FnOk l.prog w K mg base CX0 1 f_pOut _ ["pipes", "name"] (spSide outsOf) := ok_PipesOut F_pOut
  have G_pIn : FnOk l.prog w K mg base CX0 1 f_pIn _ ["pipes", "name"] (spSide insOf) := ok_PipesIn F_pIn
  have G_nI : FnOk l.prog w K mg base CX0 5 f_nI _ ["self", "brims", "pipes"] (spNInit C) := ok_nInit F_nI T F_ckPonds G_ckPonds b_ckPonds g_ckPonds F_ckPipes G_ckPipes b_ckPipes g_ckPipes F_ckSides G_ckSides b_ckSides g_ckSides F_ckWays G_ckWays b_ckWays g_ckWays F_pOut G_pOut b_pOut g_pOut F_pIn G_pIn b_pIn g_pIn x_isinstance x_dict x_sorted
  have G_has : FnOk l.prog w K mg base CX0 3 f_has _ ["self", "thing"] (spHas C) := ok_has F_has T F_pondOf G_pondOf b_pondOf g_pondOf
  have G_chk : FnOk l.prog w K mg base CX0 4 f_chk _ ["self", "thing"] (spChk C) := ok_chk F_chk T m_has G_has b_has
  have G_ponds : FnOk l.prog w K mg base CX0 1 f_ponds _ ["self"] (spPonds C) := ok_ponds F_ponds T x_list
  have G_brim : FnOk l.prog w K mg base CX0 5 f_brim _ ["self", "name"] (spBrim C) := ok_brim F_brim T m_chk G_chk b_chk
  have G_brims : FnOk l.prog w K mg base CX0 1 f_brims _ ["self"] (spBrims C) := ok_brims F_brims T
  have G_pipes : FnOk l.prog w K mg base CX0 1 f_pipes _ ["self"] (spPipes C) := ok_pipes F_pipes T
  have G_pot : FnOk l.prog w K mg base CX0 1 f_pot _ ["_law_script", "_law_k"] (spPot K) := ok_pot F_pot x_len x_max x_abs
  have G_draw : FnOk l.prog w K mg base CX0 1 f_draw _ ["_law_pot_here", "_law_many"] spDraw := ok_draw F_draw x_divmod
  have GD_steps : FnOk l.prog w K mg base CX0 2 f_steps _ ["brims", "pipes"] spStepsD := ok_stepsD F_steps F_goes G_goes b_goes g_goes x_sorted
  have G_outs : FnOk l.prog w K mg base CX0 5 f_outs _ ["self", "name"] (spOuts C) := ok_outs F_outs T m_chk G_chk b_chk x_list
  have GX_name : FnOk l.prog w K mg base CX0 1 f_name _ ["thing"] (spNameX K) := ok_nameX F_name x_isinstance x_str x_len x_all w_0 w_1
  have GX_pondOf : FnOk l.prog w K mg base CX0 2 f_pondOf _ ["brims", "thing"] (spPondOfX K) := ok_pondOfX F_pondOf F_name GX_name b_name g_name
  have GT_has : FnOk l.prog w K mg base CX0 3 f_has _ ["self", "thing"] (spHasT K C) := ok_hasT F_has T G_has F_pondOf GX_pondOf b_pondOf g_pondOf
  have G_CR : FnOk l.prog w K mg base CX0 1 f_CR _ ["self", "name"] (spX1V CR "name") := ok_xNoPond X_CR n_CR
  have GX_chk : FnOk l.prog w K mg base (L2.CX l.prog w) 4 f_chk _ ["self", "thing"] (spChkX K C CR) := ok_chkX F_chk T m_has GT_has b_has X_CR G_CR b_CR g_CR
  have G_closed : FnOk l.prog w K mg base CX0 1 f_closed _ ["_law_brims", "_law_pipes"] spClosed := ok_closed F_closed x_sum x_sorted x_range x_len x_all
  have G_room : FnOk l.prog w K mg base CX0 1 f_room _ ["_law_brims", "_law_pipes", "_law_one", "_law_other_here"] spRoom := ok_room F_room x_sum x_min
  have G_lname : FnOk l.prog w K mg base CX0 2 f_lname _ ["_law_pot_here", "_law_taken"] spLName := ok_lname F_lname F_draw G_draw b_draw g_draw x_range x_len
  have G_lnet : FnOk l.prog w K mg base CX0 3 f_lnet _ ["_law_pot_here", "_law_most", "_law_high"] spNet := ok_net F_lnet F_draw G_draw b_draw g_draw F_lname G_lname b_lname g_lname F_room G_room b_room g_room F_closed G_closed b_closed g_closed x_range x_len x_min x_sorted
  have G_wayOut : FnOk l.prog w K mg base CX0 6 f_wayOut _ ["net", "name"] ((spWayOut C)) := ok_wayOut F_wayOut T m_chk G_chk b_chk m_brims G_brims b_brims m_pipes G_pipes b_pipes F_steps GD_steps b_steps g_steps m_outs G_outs b_outs x_range x_reversed
  have GX_wayOut : FnOk l.prog w K mg base (L2.CX l.prog w) 6 f_wayOut _ ["net", "name"] (spWayX K C CR) := ok_wayX F_wayOut T m_chk GX_chk b_chk
  have G_lways : FnOk l.prog w K mg base CX0 2 f_lways _ ["_law_brims", "_law_pipes"] (spLWays) := ok_lways F_lways T x_len x_min x_range x_sum
  have G_areTold : FnOk l.prog w K mg base CX0 7 f_areTold _ ["_law_net_here", "_law_ways_here"] (spAreTold C) := ok_areTold F_areTold T F_wayOut G_wayOut b_wayOut g_wayOut x_isinstance x_list
  have G_lrefused : Rl.FnG l.prog w K mg base CX0 8 f_lrefused _ ["_law_net_here", "_law_thing"] (spLRefused K C) := ok_lrefused F_lrefused T k_sys g_CR xf_CR n_CR e_CR F_wayOut GX_wayOut b_wayOut g_wayOut x_repr
  have G_lother : FnOk l.prog w K mg base CX0 2 f_lother _ ["_law_pot_here", "_law_brims"] (spLOther) := ok_lother F_lother T F_draw G_draw b_draw g_draw x_dict x_len x_range x_sorted
  have G_layered : FnOk l.prog w K mg base CX0 3 f_layered _ ["_law_pot_here"] (spLayered) := ok_layered F_layered T F_lname G_lname b_lname g_lname x_dict x_range
  have G_lright : Rl.FnG l.prog w K mg base CX0 9 f_lright _ ["_law_pot_here"] (spLRight) := ok_lright F_lright T F_lnet G_lnet b_lnet g_lnet F_lother G_lother b_lother g_lother MN G_nI b_n v_n F_lways G_lways b_lways g_lways F_areTold G_areTold b_areTold g_areTold F_lname G_lname b_lname g_lname F_draw G_draw b_draw g_draw F_lrefused G_lrefused b_lrefused g_lrefused F_layered G_layered b_layered g_layered x_len x_list x_sorted
  exact ok_law F_law T F_pot G_pot b_pot g_pot F_lright G_lright b_lright g_lright x_len x_max x_min x_range
end Nl
end
set_option maxHeartbeats 0
namespace Nl
open PySem PySem.Spec PyProof.Rows L2
theorem facts {l : PySem.W.OpenLaw} {w : World} {K : PySem.W.Frag} {h : Heap} {mg : Str → Option Value} {fa : Addr} (X : K.In h) (G : h.Ns mainGlobals mg) (hfa : mg "law" = some (.ref fa)) (c : He.SaysD faAll fnAll K) (e : exAll K = true) (xx : xiAll K = xiVals) (hfile : l.prog.main.file = PySem.Challenge.pw_backwater_k16_ways_out.main.file) (htop : (l.prog.main.scope.names.lookup ("super" : Str)).isSome = false) :
    ∃ fd : FuncData, (∀ (s : Shared) (v : Value), BindsTo s fd ⟨[v], []⟩ [("_law_script", v)]) ∧ ∀ base : Heap, K.In base → base.Ns mainGlobals mg → Rl.FnG l.prog w K mg base CX0 10 fa fd ["_law_script"] (spLaw K) := by
  have e1 := hfa.symm.trans (He.glo_ok X G (c.fact 27 (f := .glo "law") rfl))
  cases e1
  obtain ⟨e_0, e⟩ := He.ba e
  have x_CR : Rl.xiB K (He.ga K "NoPond") (He.ma K (He.ga K "NoPond") "__init__") PySem.Challenge.pw_backwater_k16_ways_out.main.file "NoPond.__init__" = true := e_0
  obtain ⟨e_1, e⟩ := He.ba e
  have e_k_sys : (List.lookup sysModules K).isSome = true := e_1
  obtain ⟨e_2, e⟩ := He.ba e
  have e_n_CR : PySem.W.findIn K (.ref (He.ga K "NoPond")) "name" = some none := of_decide_eq_true e_2
  obtain ⟨e_3, e⟩ := He.ba e
  have e_xc_CR : Rl.xcB K (He.ga K "NoPond") = true := e_3
  obtain ⟨e_4, e⟩ := He.ba e
  have e_e_CR : PySem.W.exmOne K (.ref (He.ga K "NoPond")) (.ref (He.ga K "NoPond")) = some true := of_decide_eq_true e_4
  have nosu := He.free_ok X G (c.fact 61 (f := .free "super") rfl)
  have w_CR : Rl.xiW K "NoPond" = Rl.xiV xNoPond "NoPond.__init__" := Option.some.inj (show (xiAll K)[0]? = xiVals[0]? by rw [xx])
  obtain ⟨fd_CR, cda_CR, cc_CR, X_CR⟩ := Rl.xi_ok (mg := mg) w_CR x_CR hfile nosu htop
  obtain ⟨fd_whole, F_whole⟩ := c.def_ 0 (d := d_whole) rfl
  have F_whole : FunD K "is_whole" "is_whole" (defArgs sWhole) (defBody sWhole) (defScope sWhole) [] [] (He.fAd K ("is_whole", none)) fd_whole := F_whole
  have F_whole := fun_ofD F_whole
  obtain ⟨fd_name, F_name⟩ := c.def_ 1 (d := d_name) rfl
  have F_name : FunD K "is_name" "is_name" (defArgs sName) (defBody sName) (defScope sName) [] [] (He.fAd K ("is_name", none)) fd_name := F_name
  have F_name := fun_ofD F_name
  obtain ⟨fd_meas, F_meas⟩ := c.def_ 2 (d := d_meas) rfl
  have F_meas : FunD K "is_measure" "is_measure" (defArgs sMeas) (defBody sMeas) (defScope sMeas) [] [] (He.fAd K ("is_measure", none)) fd_meas := F_meas
  have F_meas := fun_ofD F_meas
  obtain ⟨fd_pondOf, F_pondOf⟩ := c.def_ 3 (d := d_pondOf) rfl
  have F_pondOf : FunD K "is_pond_of" "is_pond_of" (defArgs sPondOf) (defBody sPondOf) (defScope sPondOf) [] [] (He.fAd K ("is_pond_of", none)) fd_pondOf := F_pondOf
  have F_pondOf := fun_ofD F_pondOf
  obtain ⟨fd_pairOf, F_pairOf⟩ := c.def_ 4 (d := d_pairOf) rfl
  have F_pairOf : FunD K "is_pair_of" "is_pair_of" (defArgs sPairOf) (defBody sPairOf) (defScope sPairOf) [] [] (He.fAd K ("is_pair_of", none)) fd_pairOf := F_pairOf
  have F_pairOf := fun_ofD F_pairOf
  obtain ⟨fd_goes, F_goes⟩ := c.def_ 5 (d := d_goes) rfl
  have F_goes : FunD K "goes_out" "goes_out" (defArgs sGoes) (defBody sGoes) (defScope sGoes) [] [] (He.fAd K ("goes_out", none)) fd_goes := F_goes
  have F_goes := fun_ofD F_goes
  obtain ⟨fd_comes, F_comes⟩ := c.def_ 6 (d := d_comes) rfl
  have F_comes : FunD K "comes_in" "comes_in" (defArgs sComes) (defBody sComes) (defScope sComes) [] [] (He.fAd K ("comes_in", none)) fd_comes := F_comes
  have F_comes := fun_ofD F_comes
  obtain ⟨fd_steps, F_steps⟩ := c.def_ 7 (d := d_steps) rfl
  have F_steps : FunD K "steps_out" "steps_out" (defArgs sSteps) (defBody sSteps) (defScope sSteps) [] [] (He.fAd K ("steps_out", none)) fd_steps := F_steps
  have F_steps := fun_ofD F_steps
  obtain ⟨fd_pOut, F_pOut⟩ := c.def_ 8 (d := d_pOut) rfl
  have F_pOut : FunD K "pipes_out" "pipes_out" (defArgs sPipesOut) (defBody sPipesOut) (defScope sPipesOut) [] [] (He.fAd K ("pipes_out", none)) fd_pOut := F_pOut
  have F_pOut := fun_ofD F_pOut
  obtain ⟨fd_pIn, F_pIn⟩ := c.def_ 9 (d := d_pIn) rfl
  have F_pIn : FunD K "pipes_in" "pipes_in" (defArgs sPipesIn) (defBody sPipesIn) (defScope sPipesIn) [] [] (He.fAd K ("pipes_in", none)) fd_pIn := F_pIn
  have F_pIn := fun_ofD F_pIn
  obtain ⟨fd_ckPonds, F_ckPonds⟩ := c.def_ 10 (d := d_ckPonds) rfl
  have F_ckPonds : FunD K "check_ponds" "check_ponds" (defArgs sCkPonds) (defBody sCkPonds) (defScope sCkPonds) [] [] (He.fAd K ("check_ponds", none)) fd_ckPonds := F_ckPonds
  have F_ckPonds := fun_ofD F_ckPonds
  obtain ⟨fd_ckPipes, F_ckPipes⟩ := c.def_ 11 (d := d_ckPipes) rfl
  have F_ckPipes : FunD K "check_pipes" "check_pipes" (defArgs sCkPipes) (defBody sCkPipes) (defScope sCkPipes) [] [] (He.fAd K ("check_pipes", none)) fd_ckPipes := F_ckPipes
  have F_ckPipes := fun_ofD F_ckPipes
  obtain ⟨fd_ckSides, F_ckSides⟩ := c.def_ 12 (d := d_ckSides) rfl
  have F_ckSides : FunD K "check_sides" "check_sides" (defArgs sCkSides) (defBody sCkSides) (defScope sCkSides) [] [] (He.fAd K ("check_sides", none)) fd_ckSides := F_ckSides
  have F_ckSides := fun_ofD F_ckSides
  obtain ⟨fd_ckWays, F_ckWays⟩ := c.def_ 13 (d := d_ckWays) rfl
  have F_ckWays : FunD K "check_ways" "check_ways" (defArgs sCkWays) (defBody sCkWays) (defScope sCkWays) [] [] (He.fAd K ("check_ways", none)) fd_ckWays := F_ckWays
  have F_ckWays := fun_ofD F_ckWays
  obtain ⟨fd_pot, F_pot⟩ := c.def_ 14 (d := d_pot) rfl
  have F_pot : FunD K "_law_pot" "_law_pot" (defArgs sPot) (defBody sPot) (defScope sPot) [] [] (He.fAd K ("_law_pot", none)) fd_pot := F_pot
  have F_pot := fun_ofD F_pot
  obtain ⟨fd_draw, F_draw⟩ := c.def_ 15 (d := d_draw) rfl
  have F_draw : FunD K "_law_draw" "_law_draw" (defArgs sDraw) (defBody sDraw) (defScope sDraw) [] [] (He.fAd K ("_law_draw", none)) fd_draw := F_draw
  have F_draw := fun_ofD F_draw
  obtain ⟨fd_lname, F_lname⟩ := c.def_ 16 (d := d_lname) rfl
  have F_lname : FunD K "_law_name" "_law_name" (defArgs sLName) (defBody sLName) (defScope sLName) [] [] (He.fAd K ("_law_name", none)) fd_lname := F_lname
  have F_lname := fun_ofD F_lname
  obtain ⟨fd_closed, F_closed⟩ := c.def_ 17 (d := d_closed) rfl
  have F_closed : FunD K "_law_closed" "_law_closed" (defArgs sClosed) (defBody sClosed) (defScope sClosed) [] [] (He.fAd K ("_law_closed", none)) fd_closed := F_closed
  have F_closed := fun_ofD F_closed
  obtain ⟨fd_room, F_room⟩ := c.def_ 18 (d := d_room) rfl
  have F_room : FunD K "_law_room" "_law_room" (defArgs sRoom) (defBody sRoom) (defScope sRoom) [] [] (He.fAd K ("_law_room", none)) fd_room := F_room
  have F_room := fun_ofD F_room
  obtain ⟨fd_lnet, F_lnet⟩ := c.def_ 19 (d := d_lnet) rfl
  have F_lnet : FunD K "_law_net" "_law_net" (defArgs sNet) (defBody sNet) (defScope sNet) [] [] (He.fAd K ("_law_net", none)) fd_lnet := F_lnet
  have F_lnet := fun_ofD F_lnet
  obtain ⟨fd_wayOut, F_wayOut⟩ := c.def_ 20 (d := d_wayOut) rfl
  have F_wayOut : FunD K "way_out" "way_out" (defArgs s_way_out) (defBody s_way_out) (defScope s_way_out) [] [] (He.fAd K ("way_out", none)) fd_wayOut := F_wayOut
  have F_wayOut := fun_ofD F_wayOut
  obtain ⟨fd_lways, F_lways⟩ := c.def_ 21 (d := d_lways) rfl
  have F_lways : FunD K "_law_ways" "_law_ways" (defArgs s_law_ways) (defBody s_law_ways) (defScope s_law_ways) [] [] (He.fAd K ("_law_ways", none)) fd_lways := F_lways
  have F_lways := fun_ofD F_lways
  obtain ⟨fd_areTold, F_areTold⟩ := c.def_ 22 (d := d_areTold) rfl
  have F_areTold : FunD K "_law_are_told" "_law_are_told" (defArgs s_law_are_told) (defBody s_law_are_told) (defScope s_law_are_told) [] [] (He.fAd K ("_law_are_told", none)) fd_areTold := F_areTold
  have F_areTold := fun_ofD F_areTold
  obtain ⟨fd_lrefused, F_lrefused⟩ := c.def_ 23 (d := d_lrefused) rfl
  have F_lrefused : FunD K "_law_refused" "_law_refused" (defArgs sRefused) (defBody sRefused) (defScope sRefused) [] [] (He.fAd K ("_law_refused", none)) fd_lrefused := F_lrefused
  have F_lrefused := fun_ofD F_lrefused
  obtain ⟨fd_lother, F_lother⟩ := c.def_ 24 (d := d_lother) rfl
  have F_lother : FunD K "_law_other" "_law_other" (defArgs s_law_other) (defBody s_law_other) (defScope s_law_other) [] [] (He.fAd K ("_law_other", none)) fd_lother := F_lother
  have F_lother := fun_ofD F_lother
  obtain ⟨fd_layered, F_layered⟩ := c.def_ 25 (d := d_layered) rfl
  have F_layered : FunD K "_law_layered" "_law_layered" (defArgs s_law_layered) (defBody s_law_layered) (defScope s_law_layered) [] [] (He.fAd K ("_law_layered", none)) fd_layered := F_layered
  have F_layered := fun_ofD F_layered
  obtain ⟨fd_lright, F_lright⟩ := c.def_ 26 (d := d_lright) rfl
  have F_lright : FunD K "_law_right" "_law_right" (defArgs sRight) (defBody sRight) (defScope sRight) [] [] (He.fAd K ("_law_right", none)) fd_lright := F_lright
  have F_lright := fun_ofD F_lright
  obtain ⟨fd_law, F_law⟩ := c.def_ 27 (d := d_law) rfl
  have F_law : FunD K "law" "law" (defArgs sLaw) (defBody sLaw) (defScope sLaw) [] [] (He.fAd K ("law", none)) fd_law := F_law
  obtain ⟨fd_has, F_has⟩ := c.def_ 28 (d := d_has) rfl
  have F_has : FunD K "has_pond" "Net.has_pond" (defArgs mNet_has_pond) (defBody mNet_has_pond) (defScope mNet_has_pond) [] [] (He.fAd K ("Net", some "has_pond")) fd_has := F_has
  have F_has := fun_ofD F_has
  obtain ⟨fd_chk, F_chk⟩ := c.def_ 29 (d := d_chk) rfl
  have F_chk : FunD K "check_pond" "Net.check_pond" (defArgs mNet_check_pond) (defBody mNet_check_pond) (defScope mNet_check_pond) [] [] (He.fAd K ("Net", some "check_pond")) fd_chk := F_chk
  have F_chk := fun_ofD F_chk
  obtain ⟨fd_ponds, F_ponds⟩ := c.def_ 30 (d := d_ponds) rfl
  have F_ponds : FunD K "ponds" "Net.ponds" (defArgs mNet_ponds) (defBody mNet_ponds) (defScope mNet_ponds) [] [] (He.fAd K ("Net", some "ponds")) fd_ponds := F_ponds
  have F_ponds := fun_ofD F_ponds
  obtain ⟨fd_brim, F_brim⟩ := c.def_ 31 (d := d_brim) rfl
  have F_brim : FunD K "brim" "Net.brim" (defArgs mNet_brim) (defBody mNet_brim) (defScope mNet_brim) [] [] (He.fAd K ("Net", some "brim")) fd_brim := F_brim
  have F_brim := fun_ofD F_brim
  obtain ⟨fd_brims, F_brims⟩ := c.def_ 32 (d := d_brims) rfl
  have F_brims : FunD K "brims" "Net.brims" (defArgs mNet_brims) (defBody mNet_brims) (defScope mNet_brims) [] [] (He.fAd K ("Net", some "brims")) fd_brims := F_brims
  have F_brims := fun_ofD F_brims
  obtain ⟨fd_pipes, F_pipes⟩ := c.def_ 33 (d := d_pipes) rfl
  have F_pipes : FunD K "pipes" "Net.pipes" (defArgs mNet_pipes) (defBody mNet_pipes) (defScope mNet_pipes) [] [] (He.fAd K ("Net", some "pipes")) fd_pipes := F_pipes
  have F_pipes := fun_ofD F_pipes
  obtain ⟨fd_outs, F_outs⟩ := c.def_ 34 (d := d_outs) rfl
  have F_outs : FunD K "outs" "Net.outs" (defArgs mNet_outs) (defBody mNet_outs) (defScope mNet_outs) [] [] (He.fAd K ("Net", some "outs")) fd_outs := F_outs
  have F_outs := fun_ofD F_outs
  obtain ⟨fd_nI, F_nI⟩ := c.def_ 35 (d := d_nI) rfl
  have F_nI : FunD K "__init__" "Net.__init__" (defArgs mNet_init) (defBody mNet_init) (defScope mNet_init) [.non] [] (He.fAd K ("Net", some "__init__")) fd_nI := F_nI
  obtain ⟨tk_0, w_0⟩ := He.int_ok X G (c.fact 62 (f := .int "MOST_LETTERS" 8) rfl)
  obtain ⟨tk_1, w_1⟩ := He.str_ok X G (c.fact 63 (f := .str "LETTERS" abc) rfl)
  obtain ⟨tk_2, w_2⟩ := He.int_ok X G (c.fact 64 (f := .int "MOST_BRIM" 60) rfl)
  obtain ⟨tk_3, w_3⟩ := He.int_ok X G (c.fact 65 (f := .int "MOST_PONDS" 12) rfl)
  exact all_test (h := h) F_whole (He.glo_ok X G (c.fact 0 (f := .glo "is_whole") rfl)) F_name (He.glo_ok X G (c.fact 1 (f := .glo "is_name") rfl)) F_meas (He.glo_ok X G (c.fact 2 (f := .glo "is_measure") rfl)) F_pondOf (He.glo_ok X G (c.fact 3 (f := .glo "is_pond_of") rfl)) F_pairOf (He.glo_ok X G (c.fact 4 (f := .glo "is_pair_of") rfl)) F_goes (He.glo_ok X G (c.fact 5 (f := .glo "goes_out") rfl)) F_comes (He.glo_ok X G (c.fact 6 (f := .glo "comes_in") rfl)) F_steps (He.glo_ok X G (c.fact 7 (f := .glo "steps_out") rfl)) F_pOut (He.glo_ok X G (c.fact 8 (f := .glo "pipes_out") rfl)) F_pIn (He.glo_ok X G (c.fact 9 (f := .glo "pipes_in") rfl)) F_ckPonds (He.glo_ok X G (c.fact 10 (f := .glo "check_ponds") rfl)) F_ckPipes (He.glo_ok X G (c.fact 11 (f := .glo "check_pipes") rfl)) F_ckSides (He.glo_ok X G (c.fact 12 (f := .glo "check_sides") rfl)) F_ckWays (He.glo_ok X G (c.fact 13 (f := .glo "check_ways") rfl)) F_pot (He.glo_ok X G (c.fact 14 (f := .glo "_law_pot") rfl)) F_draw (He.glo_ok X G (c.fact 15 (f := .glo "_law_draw") rfl)) F_lname (He.glo_ok X G (c.fact 16 (f := .glo "_law_name") rfl)) F_closed (He.glo_ok X G (c.fact 17 (f := .glo "_law_closed") rfl)) F_room (He.glo_ok X G (c.fact 18 (f := .glo "_law_room") rfl)) F_lnet (He.glo_ok X G (c.fact 19 (f := .glo "_law_net") rfl)) F_wayOut (He.glo_ok X G (c.fact 20 (f := .glo "way_out") rfl)) F_lways (He.glo_ok X G (c.fact 21 (f := .glo "_law_ways") rfl)) F_areTold (He.glo_ok X G (c.fact 22 (f := .glo "_law_are_told") rfl)) F_lrefused (He.glo_ok X G (c.fact 23 (f := .glo "_law_refused") rfl)) F_lother (He.glo_ok X G (c.fact 24 (f := .glo "_law_other") rfl)) F_layered (He.glo_ok X G (c.fact 25 (f := .glo "_law_layered") rfl)) F_lright (He.glo_ok X G (c.fact 26 (f := .glo "_law_right") rfl)) F_law (He.glo_ok X G (c.fact 27 (f := .glo "law") rfl)) F_has (He.meth_ok (c.fact 28 (f := .meth "Net" "has_pond") rfl)) F_chk (He.meth_ok (c.fact 29 (f := .meth "Net" "check_pond") rfl)) F_ponds (He.meth_ok (c.fact 30 (f := .meth "Net" "ponds") rfl)) F_brim (He.meth_ok (c.fact 31 (f := .meth "Net" "brim") rfl)) F_brims (He.meth_ok (c.fact 32 (f := .meth "Net" "brims") rfl)) F_pipes (He.meth_ok (c.fact 33 (f := .meth "Net" "pipes") rfl)) F_outs (He.meth_ok (c.fact 34 (f := .meth "Net" "outs") rfl)) F_nI (He.mkr_ok (c.fact 35 (f := .mkr "Net") rfl)) ⟨He.cls_ok (c.fact 36 (f := .cls "Net") rfl), He.noat_ok (c.fact 37 (f := .noat "Net" "brim_by_pond") rfl), He.noat_ok (c.fact 38 (f := .noat "Net" "width_by_pair") rfl), He.noat_ok (c.fact 39 (f := .noat "Net" "outs_by_pond") rfl), He.noat_ok (c.fact 40 (f := .noat "Net" "ins_by_pond") rfl), He.glo_ok X G (c.fact 41 (f := .glo "Net") rfl)⟩ X_CR (He.glo_ok X G (c.fact 42 (f := .glo "NoPond") rfl)) e_k_sys e_n_CR e_xc_CR e_e_CR (He.free_ok X G (c.fact 43 (f := .free "isinstance") rfl)) (He.free_ok X G (c.fact 44 (f := .free "int") rfl)) (He.free_ok X G (c.fact 45 (f := .free "bool") rfl)) (He.free_ok X G (c.fact 46 (f := .free "str") rfl)) (He.free_ok X G (c.fact 47 (f := .free "len") rfl)) (He.free_ok X G (c.fact 48 (f := .free "all") rfl)) (He.free_ok X G (c.fact 49 (f := .free "tuple") rfl)) (He.free_ok X G (c.fact 50 (f := .free "sum") rfl)) (He.free_ok X G (c.fact 51 (f := .free "sorted") rfl)) (He.free_ok X G (c.fact 52 (f := .free "dict") rfl)) (He.free_ok X G (c.fact 53 (f := .free "list") rfl)) (He.free_ok X G (c.fact 54 (f := .free "divmod") rfl)) (He.free_ok X G (c.fact 55 (f := .free "max") rfl)) (He.free_ok X G (c.fact 56 (f := .free "abs") rfl)) (He.free_ok X G (c.fact 57 (f := .free "range") rfl)) (He.free_ok X G (c.fact 58 (f := .free "min") rfl)) (He.free_ok X G (c.fact 59 (f := .free "reversed") rfl)) (He.free_ok X G (c.fact 60 (f := .free "repr") rfl)) (He.free_ok X G (c.fact 61 (f := .free "super") rfl)) w_0 w_1 w_2 w_3
end Nl
open PySem PySem.W PySem.Calls PyProof.Rows
set_option maxHeartbeats 0 in
theorem PySem.Challenge.cw_backwater_k16_ways_out_holds : PySem.Challenge.rw_backwater_k16_ways_out.Holds := by
  w_on; o_law
  refine HandSHeadRun.head_any (r := OpenLaw.row PySem.Challenge.rw_backwater_k16_ways_out) (q := view (OpenLaw.row PySem.Challenge.rw_backwater_k16_ways_out).prog [48]) (H := Nl.hookN) (ob := Nl.obN) (M := 8000) (loose := Nl.looseAll) (d := HandSHeadRun.topDef (OpenLaw.row PySem.Challenge.rw_backwater_k16_ways_out).prog 48) (kwd := []) Nl.obN_eq
    (by kernel_rfl) (fun s => by kernel_rfl) Nl.run (by kernel_rfl) (by kernel_rfl) (by kernel_rfl) (by rfl) (by first | assumption | decide +kernel) (by decide +kernel) ⟨rfl, rfl, rfl, rfl, rfl, by decide +kernel⟩ ?hw ?hc
  case hw => w_witness2
  case hc =>
    refine Rl.walk_ofG (l := PySem.Challenge.rw_backwater_k16_ways_out) (n := 63) (k := 10) (x := "_law_script") (CX := L2.CX0) rfl (by decide) (by kernel_rfl) ⟨rfl, by decide, by decide⟩ ?F (fun _ _ _ _ z => z)
    intro w mg fa h Y G hmg0
    obtain ⟨K, KX, c, e, xx⟩ := Y
    have hmg : mg ("law" : PySem.Str) = some (.ref fa) := by
      have e : (HandSHeadRun.topDef (OpenLaw.row PySem.Challenge.rw_backwater_k16_ways_out).prog 48).name = ("law" : PySem.Str) := by kernel_rfl
      rw [← e]
      exact hmg0
    obtain ⟨fd, hb, hF⟩ := Nl.facts (l := PySem.Challenge.rw_backwater_k16_ways_out) (w := w) KX G hmg c e xx rfl (by kernel_rfl)
    exact ⟨K, fd, Nl.spLaw K, KX, hb, fun H a ns hl _ hS => ⟨a, ns, rfl, hS, hl, fun _ => rfl⟩, hF⟩
