import PyProof.Rows.All
import Wide.All
import OpenK.AllK
import Wide.FinOn
import Lean
import PyProof.EqAt
import PyProof.EqKinds
import PyProof.TupleCall
import PyProof.P3In
import PyProof.DictCompW
import PyProof.Rows.ReprR
import PyProof.ReprLen
import PySem.Challenge.RW_slotwright_k42_wrong_turns_refused
set_option Elab.async false
namespace H0
open PySem PySem.W PyProof.Rows

/-- the top, run over a heap that is a tree -/
def topT (tb : String → Option Builtin) (p : Program) (w : World) (n0 : Nat) (ann : Option Value) : Nat → SharedT → Thread → Option SharedT
  | 0, _, _ => none
  | n + 1, s, t => match through t with
    | true => some s
    | false => match stepOk n0 ann t with
      | false => none
      | true => match stepT (denote tb) p w s t with
        | some (s', t') => topT tb p w n0 ann n s' t'
        | none => none
theorem topT_run {tb : String → Option Builtin} {p : Program} {w : World} {n0 : Nat} {ann : Option Value} : ∀ {n : Nat} {s s' : SharedT} {t : Thread}, topT tb p w n0 ann n s t = some s' → topRun tb p w n0 ann n s.abs t = some s'.abs := by
  intro n
  induction n with
  | zero => intro s s' t h; cases h
  | succ n ih =>
    intro s s' t h
    unfold topT at h
    unfold topRun
    cases ht : through t with
    | true => rw [ht] at h; cases h; rfl
    | false =>
      rw [ht] at h
      cases hk : stepOk n0 ann t with
      | false => rw [hk] at h; cases h
      | true =>
        rw [hk] at h
        cases hs : stepT (denote tb) p w s t with
        | none => rw [hs] at h; cases h
        | some r => obtain ⟨s2, t2⟩ := r; rw [hs] at h; dsimp only; rw [stepT_spec hs]; exact ih h
def treeOf : List Obj → BT → Nat → BT
  | [], t, _ => t
  | o :: r, t, n => treeOf r (t.ins n o) (n + 1)
def looksAt (p : Program) (h0 : Heap) (s : Shared) : Bool := staticsOk (importedModules p.main.body) h0 s.heap && namesBound p s.heap && gensDone s && laidKept h0 s.heap
noncomputable def st0 (m0 : Nat) (w : World) (os : OsState) : SharedT := ⟨treeOf (boot_heap w.params).objs.toList .nil 0, m0, (boot_heap w.params).life, Array.mk [], boot_drawn, boot_toks, os⟩
theorem left_tree {p q : Program} {loose : List Str} {Xt : Shared → Bool} {α : Type} {Yf : Shared → α} {Ya : World → α} {N : Nat} {g0 : Bool} {m0 : Nat} {ann : Option Value}
    (open_ : ∀ w : World, (fencedOpening treeTable p w N).map (fun s => (s.heap, s.gens, s.drawn, s.toks)) = some (boot_heap w.params, Array.mk [], boot_drawn, boot_toks))
    (tree : ∀ w : World, absHeap (treeOf (boot_heap w.params).objs.toList .nil 0) m0 (boot_heap w.params).life = boot_heap w.params)
    (size : ∀ w : World, ((boot_heap w.params).isNs mainGlobals, (boot_heap w.params).objs.size, (boot_heap w.params).nsMap mainGlobals "__annotations__") = (true, m0, ann))
    (runA : ∀ (w : World) (os : OsState), (topT treeTable p w m0 ann N (st0 m0 w os) (topStub p)).map (fun s => (looksAt p (boot_heap w.params) s.abs, (openSeen q loose (importedModules p.main.body) Xt g0 s.abs).1, (openSeen q loose (importedModules p.main.body) Xt g0 s.abs).2.1, (openSeen q loose (importedModules p.main.body) Xt g0 s.abs).2.2.1)) = some (true, (openGood q loose).1, (openGood q loose).2.1, (openGood q loose).2.2.1))
    (runB : ∀ (w : World) (os : OsState), (topT treeTable p w m0 ann N (st0 m0 w os) (topStub p)).map (fun s => (openSeen q loose (importedModules p.main.body) Xt g0 s.abs).2.2.2) = some (openGood q loose).2.2.2)
    (runC : ∀ (w : World) (os : OsState), (topT treeTable p w m0 ann N (st0 m0 w os) (topStub p)).map (fun s => Yf s.abs) = some (Ya w)) :
    LeftO p q loose Xt Yf Ya N g0 := fun w => by
  obtain ⟨⟨h, gs, d, k, os⟩, e, e'⟩ := Option.map_eq_some_iff.mp (open_ w)
  obtain ⟨rfl, rfl, rfl, rfl⟩ : h = boot_heap w.params ∧ gs = Array.mk [] ∧ d = boot_drawn ∧ k = boot_toks := by simpa using e'
  obtain ⟨z1, z2, z3⟩ : _ ∧ _ ∧ _ := by simpa only [Prod.mk.injEq] using size w
  obtain ⟨s, r, la⟩ := Option.map_eq_some_iff.mp (runA w os)
  obtain ⟨s1, r1, lb⟩ := Option.map_eq_some_iff.mp (runB w os)
  obtain ⟨s2, r2, lc⟩ := Option.map_eq_some_iff.mp (runC w os)
  have q1 : s = s1 := Option.some.inj (r.symm.trans r1)
  have q2 : s = s2 := Option.some.inj (r.symm.trans r2)
  subst q1 q2
  obtain ⟨l1, a1, a2, a3⟩ : _ ∧ _ ∧ _ ∧ _ := by simpa only [Prod.mk.injEq] using la
  unfold looksAt at l1
  have l2 : openSeen q loose (importedModules p.main.body) Xt g0 s.abs = openGood q loose := Prod.ext a1 (Prod.ext a2 (Prod.ext a3 lb))
  have l3 : Yf s.abs = Ya w := lc
  have r2 := topT_run r
  have r3 : topRun treeTable p w m0 ann N ⟨boot_heap w.params, Array.mk [], boot_drawn, boot_toks, os⟩ (topStub p) = some s.abs := by
    rw [← r2]
    show _ = topRun treeTable p w m0 ann N ⟨absHeap (treeOf (boot_heap w.params).objs.toList .nil 0) m0 (boot_heap w.params).life, Array.mk [], boot_drawn, boot_toks, os⟩ (topStub p)
    rw [tree w]
  have z4 : ((boot_heap w.params).isNs mainGlobals && (Array.mk [] : Array GenState).size == 0) = true := by rw [z1]; rfl
  have t : topFrom treeTable p w N ⟨boot_heap w.params, Array.mk [], boot_drawn, boot_toks, os⟩ = some s.abs := by
    unfold topFrom
    dsimp only
    rw [z4, z2, z3, r3]
    show (match staticsOk (importedModules p.main.body) (boot_heap w.params) s.abs.heap && namesBound p s.abs.heap && gensDone s.abs && laidKept (boot_heap w.params) s.abs.heap with | true => _ | false => _) = _
    rw [l1]
  unfold openEnds
  rw [e]
  show (topFrom treeTable p w N _).map _ = _
  rw [t]
  exact congrArg some (Prod.ext l2 l3)
def bootSize : Nat := 11
def bootAnn : Option Value := some (.ref 6)
theorem boot_tree : ∀ w : World, absHeap (treeOf (boot_heap w.params).objs.toList .nil 0) bootSize (boot_heap w.params).life = boot_heap w.params := fun w => by kernel_rfl
theorem boot_size : ∀ w : World, ((boot_heap w.params).isNs mainGlobals, (boot_heap w.params).objs.size, (boot_heap w.params).nsMap mainGlobals "__annotations__") = (true, bootSize, bootAnn) := fun w => by kernel_rfl
def view0 : Program := { PySem.Challenge.pw_slotwright_k42_wrong_turns_refused with main := { PySem.Challenge.pw_slotwright_k42_wrong_turns_refused.main with body := [PySem.Challenge.pw_slotwright_k42_wrong_turns_refused.main.body.getD 0 (.Pass ⟨0, 0, 0, 0⟩), PySem.Challenge.pw_slotwright_k42_wrong_turns_refused.main.body.getD 2 (.Pass ⟨0, 0, 0, 0⟩), PySem.Challenge.pw_slotwright_k42_wrong_turns_refused.main.body.getD 3 (.Pass ⟨0, 0, 0, 0⟩), PySem.Challenge.pw_slotwright_k42_wrong_turns_refused.main.body.getD 4 (.Pass ⟨0, 0, 0, 0⟩), PySem.Challenge.pw_slotwright_k42_wrong_turns_refused.main.body.getD 5 (.Pass ⟨0, 0, 0, 0⟩), PySem.Challenge.pw_slotwright_k42_wrong_turns_refused.main.body.getD 6 (.Pass ⟨0, 0, 0, 0⟩), PySem.Challenge.pw_slotwright_k42_wrong_turns_refused.main.body.getD 7 (.Pass ⟨0, 0, 0, 0⟩), PySem.Challenge.pw_slotwright_k42_wrong_turns_refused.main.body.getD 8 (.Pass ⟨0, 0, 0, 0⟩), PySem.Challenge.pw_slotwright_k42_wrong_turns_refused.main.body.getD 9 (.Pass ⟨0, 0, 0, 0⟩), PySem.Challenge.pw_slotwright_k42_wrong_turns_refused.main.body.getD 10 (.Pass ⟨0, 0, 0, 0⟩), PySem.Challenge.pw_slotwright_k42_wrong_turns_refused.main.body.getD 11 (.Pass ⟨0, 0, 0, 0⟩), PySem.Challenge.pw_slotwright_k42_wrong_turns_refused.main.body.getD 12 (.Pass ⟨0, 0, 0, 0⟩), PySem.Challenge.pw_slotwright_k42_wrong_turns_refused.main.body.getD 13 (.Pass ⟨0, 0, 0, 0⟩), PySem.Challenge.pw_slotwright_k42_wrong_turns_refused.main.body.getD 14 (.Pass ⟨0, 0, 0, 0⟩), PySem.Challenge.pw_slotwright_k42_wrong_turns_refused.main.body.getD 15 (.Pass ⟨0, 0, 0, 0⟩), PySem.Challenge.pw_slotwright_k42_wrong_turns_refused.main.body.getD 16 (.Pass ⟨0, 0, 0, 0⟩), PySem.Challenge.pw_slotwright_k42_wrong_turns_refused.main.body.getD 17 (.Pass ⟨0, 0, 0, 0⟩), PySem.Challenge.pw_slotwright_k42_wrong_turns_refused.main.body.getD 18 (.Pass ⟨0, 0, 0, 0⟩), PySem.Challenge.pw_slotwright_k42_wrong_turns_refused.main.body.getD 19 (.Pass ⟨0, 0, 0, 0⟩), PySem.Challenge.pw_slotwright_k42_wrong_turns_refused.main.body.getD 21 (.Pass ⟨0, 0, 0, 0⟩), PySem.Challenge.pw_slotwright_k42_wrong_turns_refused.main.body.getD 22 (.Pass ⟨0, 0, 0, 0⟩), PySem.Challenge.pw_slotwright_k42_wrong_turns_refused.main.body.getD 23 (.Pass ⟨0, 0, 0, 0⟩), PySem.Challenge.pw_slotwright_k42_wrong_turns_refused.main.body.getD 25 (.Pass ⟨0, 0, 0, 0⟩), PySem.Challenge.pw_slotwright_k42_wrong_turns_refused.main.body.getD 26 (.Pass ⟨0, 0, 0, 0⟩), PySem.Challenge.pw_slotwright_k42_wrong_turns_refused.main.body.getD 27 (.Pass ⟨0, 0, 0, 0⟩), PySem.Challenge.pw_slotwright_k42_wrong_turns_refused.main.body.getD 28 (.Pass ⟨0, 0, 0, 0⟩), PySem.Challenge.pw_slotwright_k42_wrong_turns_refused.main.body.getD 29 (.Pass ⟨0, 0, 0, 0⟩), PySem.Challenge.pw_slotwright_k42_wrong_turns_refused.main.body.getD 30 (.Pass ⟨0, 0, 0, 0⟩), PySem.Challenge.pw_slotwright_k42_wrong_turns_refused.main.body.getD 31 (.Pass ⟨0, 0, 0, 0⟩), PySem.Challenge.pw_slotwright_k42_wrong_turns_refused.main.body.getD 32 (.Pass ⟨0, 0, 0, 0⟩), PySem.Challenge.pw_slotwright_k42_wrong_turns_refused.main.body.getD 34 (.Pass ⟨0, 0, 0, 0⟩), PySem.Challenge.pw_slotwright_k42_wrong_turns_refused.main.body.getD 35 (.Pass ⟨0, 0, 0, 0⟩), PySem.Challenge.pw_slotwright_k42_wrong_turns_refused.main.body.getD 36 (.Pass ⟨0, 0, 0, 0⟩), PySem.Challenge.pw_slotwright_k42_wrong_turns_refused.main.body.getD 37 (.Pass ⟨0, 0, 0, 0⟩), PySem.Challenge.pw_slotwright_k42_wrong_turns_refused.main.body.getD 38 (.Pass ⟨0, 0, 0, 0⟩), PySem.Challenge.pw_slotwright_k42_wrong_turns_refused.main.body.getD 39 (.Pass ⟨0, 0, 0, 0⟩), PySem.Challenge.pw_slotwright_k42_wrong_turns_refused.main.body.getD 40 (.Pass ⟨0, 0, 0, 0⟩), PySem.Challenge.pw_slotwright_k42_wrong_turns_refused.main.body.getD 41 (.Pass ⟨0, 0, 0, 0⟩), PySem.Challenge.pw_slotwright_k42_wrong_turns_refused.main.body.getD 42 (.Pass ⟨0, 0, 0, 0⟩), PySem.Challenge.pw_slotwright_k42_wrong_turns_refused.main.body.getD 43 (.Pass ⟨0, 0, 0, 0⟩)] } }
set_option maxRecDepth 100000
set_option maxHeartbeats 0
theorem runA (w : World) (os : OsState) : (topT treeTable PySem.Challenge.pw_slotwright_k42_wrong_turns_refused w bootSize bootAnn 10588 (st0 bootSize w os) (topStub PySem.Challenge.pw_slotwright_k42_wrong_turns_refused)).map (fun s => (looksAt PySem.Challenge.pw_slotwright_k42_wrong_turns_refused (boot_heap w.params) s.abs, (openSeen view0 [Str.ofString "Clocks"] (importedModules PySem.Challenge.pw_slotwright_k42_wrong_turns_refused.main.body) (fun s => xlAt view0 [] s && recOk (RowW.records (PySem.Challenge.rw_slotwright_k42_wrong_turns_refused.row.toRowW)) s) true s.abs).1, (openSeen view0 [Str.ofString "Clocks"] (importedModules PySem.Challenge.pw_slotwright_k42_wrong_turns_refused.main.body) (fun s => xlAt view0 [] s && recOk (RowW.records (PySem.Challenge.rw_slotwright_k42_wrong_turns_refused.row.toRowW)) s) true s.abs).2.1, (openSeen view0 [Str.ofString "Clocks"] (importedModules PySem.Challenge.pw_slotwright_k42_wrong_turns_refused.main.body) (fun s => xlAt view0 [] s && recOk (RowW.records (PySem.Challenge.rw_slotwright_k42_wrong_turns_refused.row.toRowW)) s) true s.abs).2.2.1)) = some (true, (openGood view0 [Str.ofString "Clocks"]).1, (openGood view0 [Str.ofString "Clocks"]).2.1, (openGood view0 [Str.ofString "Clocks"]).2.2.1) := by rewrite [PySem.W.Fast.te14364793385576792824]; kernel_rfl
theorem runB (w : World) (os : OsState) : (topT treeTable PySem.Challenge.pw_slotwright_k42_wrong_turns_refused w bootSize bootAnn 10588 (st0 bootSize w os) (topStub PySem.Challenge.pw_slotwright_k42_wrong_turns_refused)).map (fun s => (openSeen view0 [Str.ofString "Clocks"] (importedModules PySem.Challenge.pw_slotwright_k42_wrong_turns_refused.main.body) (fun s => xlAt view0 [] s && recOk (RowW.records (PySem.Challenge.rw_slotwright_k42_wrong_turns_refused.row.toRowW)) s) true s.abs).2.2.2) = some (openGood view0 [Str.ofString "Clocks"]).2.2.2 := by rewrite [PySem.W.Fast.te14364793385576792824]; kernel_rfl
local macro_rules | `(tactic| o_head $H) => `(tactic| (refine holds_open (q := view0) (loose := [Str.ofString "Clocks"]) (Xt := fun s => xlAt view0 [] s && recOk (RowW.records (PySem.Challenge.rw_slotwright_k42_wrong_turns_refused.row.toRowW)) s) (XP := XL view0 []) (Yf := Hook.obs $H) (Ya := Hook.val $H) (YP := Hook.says $H) (N := 10588) ?hl (Hook.of $H) (Hook.keeps $H) (fun s e => xl_of s (Bool.and_eq_true_iff.mp e).1) XL.keeps (by rfl) (by rfl) (by rfl) (fun s e => recFacts_of (Bool.and_eq_true_iff.mp e).2) (by rfl) (by first | assumption | decide +kernel) (by decide +kernel) ⟨rfl, rfl, rfl, rfl, rfl, by decide +kernel⟩ ?hw ?hc; (case hl => exact left_tree (m0 := bootSize) (ann := bootAnn) (boot_open (by kernel_rfl) (by decide +kernel) (fun s => by kernel_rfl)) boot_tree boot_size runA runB (fun w os => by rewrite [PySem.W.Fast.te14364793385576792824]; kernel_rfl))))
set_option maxRecDepth 100000
set_option maxHeartbeats 0
open_top hd0 for PySem.Challenge.rw_slotwright_k42_wrong_turns_refused
end H0
set_option Elab.async false
set_option linter.all false
set_option maxRecDepth 100000
namespace L2
open PySem PySem.Spec PyProof.Rows

abbrev Key := Sum Int Str
def keyIs : Key -> Value -> Bool
  | .inl k, v => Value.isInt k v
  | .inr x, v => Value.isStrOf x v
def keyH (w : World) : Key -> Int
  | .inl k => hashInt k
  | .inr x => hashStr w x
theorem keyIs_shape : ∀ {k : Key} {v : Value}, keyIs k v = true -> (∃ i t, k = Sum.inl i /\ v = Value.int i t) \/ (∃ x t, k = Sum.inr x /\ v = Value.str x t)
  | .inl i, v, h => by
    obtain ⟨t, e⟩ := Value.isInt_shape (k := i) (v := v) h
    exact .inl ⟨i, t, rfl, e⟩
  | .inr x, v, h => by
    obtain ⟨t, e⟩ := Value.isStrOf_shape (x := x) (v := v) h
    exact .inr ⟨x, t, rfl, e⟩
theorem key_ll (a b : Int) : decide ((Sum.inl a : Key) = Sum.inl b) = (a == b) := by
  by_cases e : a = b
  . subst e; simp
  . have h : ¬ (Sum.inl a : Key) = Sum.inl b := fun q => e (Sum.inl.inj q)
    rw [decide_eq_false h]
    exact (beq_eq_false_iff_ne.mpr e).symm
theorem key_rr (a b : Str) : decide ((Sum.inr a : Key) = Sum.inr b) = decide (a = b) := by
  by_cases e : a = b
  . subst e; simp
  . have h : ¬ (Sum.inr a : Key) = Sum.inr b := fun q => e (Sum.inr.inj q)
    rw [decide_eq_false h, decide_eq_false e]
theorem key_lr (a : Int) (b : Str) : decide ((Sum.inl a : Key) = Sum.inr b) = false := decide_eq_false (fun q => nomatch q)
theorem key_rl (a : Str) (b : Int) : decide ((Sum.inr a : Key) = Sum.inl b) = false := decide_eq_false (fun q => nomatch q)

def mixKind (prog : Program) (w : World) : PySem.KeyKind prog w Key where
  is := keyIs
  hash := keyH w
  inj := fun v a b ha hb => by
    rcases keyIs_shape ha with ⟨i, t, rfl, rfl⟩ | ⟨x, t, rfl, rfl⟩
    . rcases keyIs_shape hb with ⟨j, u, rfl, e⟩ | ⟨y, u, rfl, e⟩
      . injection e with e1 _; rw [e1]
      . exact nomatch e
    . rcases keyIs_shape hb with ⟨j, u, rfl, e⟩ | ⟨y, u, rfl, e⟩
      . exact nomatch e
      . injection e with e1 _; rw [e1]
  byValue := fun k v h => by
    rcases keyIs_shape h with ⟨i, t, rfl, rfl⟩ | ⟨x, t, rfl, rfl⟩ <;> rfl
  pyHash := fun hv h => by
    rcases keyIs_shape hv with ⟨i, t, rfl, rfl⟩ | ⟨x, t, rfl, rfl⟩
    . exact wpAny_pyHash_int h
    . exact wpAny_pyHash_str h
  eqBool := fun hu hv h => by
    rcases keyIs_shape hu with ⟨i, t, rfl, rfl⟩ | ⟨x, t, rfl, rfl⟩
    . rcases keyIs_shape hv with ⟨j, u, rfl, rfl⟩ | ⟨y, u, rfl, rfl⟩
      . rw [key_ll] at h; exact wpAny_eqBool_int h
      . rw [key_lr] at h; exact SeqAt.EqAt.int_str i t y u _ _ _ _ h
    . rcases keyIs_shape hv with ⟨j, u, rfl, rfl⟩ | ⟨y, u, rfl, rfl⟩
      . rw [key_rl] at h; exact SeqAt.EqAt.str_int x t j u _ _ _ _ h
      . rw [key_rr] at h; exact wpAny_eqBool_str h
  «strs» := fun k x t v h => by
    rcases keyIs_shape h with ⟨i, u, rfl, e⟩ | ⟨y, u, rfl, e⟩
    . exact nomatch e
    . injection e with e1 _
      subst e1
      cases v <;> rfl

end L2

namespace L2
open PySem PySem.Spec PyProof.Rows

inductive V where
  | non | bl (b : Bool) | int (i : Int) | str (x : Str) | byt (b : Array UInt8) | flt (b : UInt64) | ref (a : Addr) | ty (n : String)
  deriving DecidableEq

def RelV : V -> Value -> Prop
  | .non, u => u = Value.none
  | .bl b, u => u = Value.bool b
  | .int i, u => ∃ t, u = Value.int i t
  | .str x, u => ∃ t, u = Value.str x t
  | .byt b, u => ∃ t, u = Value.bytes b t
  | .flt b, u => ∃ t, u = Value.float b t
  | .ref a, u => u = Value.ref a
  | .ty n, u => u = Value.type n

abbrev Vals : List V -> List Value -> Prop := Paired RelV
theorem Vals.length {xs : List V} {us : List Value} (r : Vals xs us) : xs.length = us.length := Paired.length r
theorem Vals.get : ∀ {xs : List V} {us : List Value} {i : Nat} {x : V}, Vals xs us -> xs[i]? = some x -> ∃ u, us[i]? = some u /\ RelV x u
  | _, _, _, _, .nil, e => by simp at e
  | _, _, 0, _, .cons r _, e => by simp at e; subst e; exact ⟨_, rfl, r⟩
  | _, _, i + 1, x, .cons _ t, e => by
    obtain ⟨u, h1, h2⟩ := Vals.get (i := i) (x := x) t (by simpa using e)
    exact ⟨u, by simpa using h1, h2⟩
theorem Vals.set {x : V} {u : Value} (r : RelV x u) : ∀ {xs : List V} {us : List Value} (i : Nat), Vals xs us -> Vals (xs.set i x) (us.set i u)
  | _, _, _, .nil => .nil
  | _, _, 0, .cons _ t => .cons r t
  | _, _, i + 1, .cons q t => .cons q (Vals.set r i t)
theorem Vals.append : ∀ {xs ys : List V} {us ws : List Value}, Vals xs us -> Vals ys ws -> Vals (xs ++ ys) (us ++ ws)
  | _, _, _, _, .nil, s => s
  | _, _, _, _, .cons r t, s => .cons r (Vals.append t s)
theorem Vals.take : ∀ {xs : List V} {us : List Value} (n : Nat), Vals xs us -> Vals (xs.take n) (us.take n)
  | _, _, 0, _ => .nil
  | _, _, _ + 1, .nil => .nil
  | _, _, n + 1, .cons r t => .cons r (Vals.take n t)
theorem Vals.drop : ∀ {xs : List V} {us : List Value} (n : Nat), Vals xs us -> Vals (xs.drop n) (us.drop n)
  | _, _, 0, r => r
  | _, _, _ + 1, .nil => .nil
  | _, _, n + 1, .cons _ t => Vals.drop n t
def RelO : Option V -> Option Value -> Prop
  | some v, some u => RelV v u
  | none, none => True
  | _, _ => False
def KV {κ : Type} : List (κ × V) -> List (κ × Value) -> Prop := Paired fun (p : κ × V) (q : κ × Value) => p.1 = q.1 /\ RelV p.2 q.2

def kV : Key -> V
  | .inl i => .int i
  | .inr x => .str x

inductive HO where
  | lst (xs : List V)
  | tup (xs : List V)
  | dK (kvs : List (Key × V)) | dT (kvs : List (List Key × V))
  | set (S : Int -> Bool) (n : Nat)
  | ins (C dx : Addr) (fs : List (Str × V))
  | own (x : Addr)
  | xd (fs : List (Str × V))
  | met (f x : Addr)
  | rng (lo hi : Int)
  | frz (o : Obj) (u : HO)
  | tbl (ps : Array Value)
  | ext (φ : Heap -> Prop)

abbrev Hp := Addr -> Option HO
def upd (H : Hp) (a : Addr) (o : HO) : Hp := fun b => if b = a then some o else H b
theorem upd_same {H : Hp} {a : Addr} {o : HO} : upd H a o a = some o := by unfold upd; rw [if_pos rfl]
theorem upd_ne {H : Hp} {a b : Addr} {o : HO} (h : b ≠ a) : upd H a o b = H b := by unfold upd; rw [if_neg h]
theorem ne_of_none {H : Hp} {a b : Addr} {o : HO} (h : H a = some o) (h' : H b = none) : a ≠ b := by
  intro e; subst e; rw [h] at h'; cases h'

section
variable (P : Program) (w : World)
def ObjOk (H : Hp) (h : Heap) (a : Addr) : HO -> Prop
  | .lst xs => xs.length <= sizeLine /\ ∃ (its : List Value) (n : Nat), Vals xs its /\ h.get? a = some { cls := .type "list", data := .seq its.toArray n }
  | .tup xs => xs.length <= sizeLine /\ ∃ its : List Value, Vals xs its /\ IsTup h a its.toArray
  | .dK kvs => kvs.length <= sizeLine /\ (a == sysModules) = false /\ ∃ vs, KV kvs vs /\ h.DictOf (mixKind P w) a vs
  | .dT kvs => kvs.length <= sizeLine /\ (a == sysModules) = false /\ ∃ xs : List (List Key × Addr × Value),
      Paired (fun (p : List Key × V) (q : List Key × Addr × Value) => p.1 = q.1 /\ H q.2.1 = some (.tup (p.1.map kV)) /\ RelV p.2 q.2.2) kvs xs /\
      ∃ o es ep, h.get? a = some o /\ o.ExactDict /\ o.data = .dict es ep /\ es.toList = xs.map (entryOfKey (tupleKind (mixKind P w))) /\ (xs.map (·.1)).Nodup
  | .set S n => h.SetOf (intKind P w) a S n
  | .ins C dx fs => H dx = some (.own a) /\ fs.length <= 1000 /\ dx ≠ a /\ h.get? a = some (PySem.W.instObj C dx) /\
      ∃ mA, h.Ns1 dx mA /\ (∀ f, RelO (fs.lookup f) (mA f)) /\ PySem.Within mA (fs.map (·.1))
  | .own _ => ∃ o, h.get? a = some o
  | .xd fs => ∃ mA, h.Ns1 a mA /\ ∀ f, RelO (fs.lookup f) (mA f)
  | .rng lo hi => ∃ t u v, h.get? a = some { cls := .type "range", data := .fields #[.int lo t, .int hi u, .int 1 v] }
  | .frz o u => h.get? a = some o /\ ObjOk H h a u
  | .tbl ps => h.get? a = some { cls := .none, data := .fields ps }
  | .met f x => h.get? a = some (PySem.W.methodObj (.ref f) (.ref x))
  | .ext φ => φ h /\ (∃ o, h.get? a = some o) /\ ∀ h1 h2 : Heap, φ h1 -> (∀ o, h1.get? a = some o -> h2.get? a = some o) -> φ h2
def HOk (H : Hp) (h : Heap) : Prop := ∀ a o, H a = some o -> ObjOk P w H h a o
end

section
variable {P : Program} {w : World} {H H' : Hp} {h h' : Heap} {a : Addr} {o : HO}
theorem ObjOk.lt (x : ObjOk P w H h a o) : a < h.objs.size := by
  cases o with
  | lst xs => obtain ⟨_, _, _, _, e⟩ := x; exact Heap.lt_size e
  | tup xs => obtain ⟨_, _, _, p⟩ := x; exact p.lt
  | dK kvs => obtain ⟨_, _, _, _, o, _, _, e, _⟩ := x; exact Heap.lt_size e
  | dT kvs => obtain ⟨_, _, _, _, o, _, _, e, _⟩ := x; exact Heap.lt_size e
  | set S n => obtain ⟨o, _, _, _, e, _⟩ := x; exact Heap.lt_size e
  | ins C dx fs => obtain ⟨_, _, _, e, _⟩ := x; exact Heap.lt_size e
  | own y => obtain ⟨_, e⟩ := x; exact Heap.lt_size e
  | xd fs => obtain ⟨_, ⟨_, _, _, e, _⟩, _⟩ := x; exact Heap.lt_size e
  | rng lo hi => obtain ⟨_, _, _, e⟩ := x; exact Heap.lt_size e
  | frz ob u => obtain ⟨e, _⟩ := x; exact Heap.lt_size e
  | tbl ps => exact Heap.lt_size (show h.get? a = some _ from x)
  | met f y => exact Heap.lt_size (show h.get? a = some _ from x)
  | ext φ => obtain ⟨_, ⟨_, e⟩, _⟩ := x; exact Heap.lt_size e
theorem Paired.mapP {α β : Type} {F G : α -> β -> Prop} : ∀ {l₁ : List α} {l₂ : List β}, Paired F l₁ l₂ -> (∀ a b, F a b -> G a b) -> Paired G l₁ l₂
  | _, _, .nil, _ => .nil
  | _, _, .cons r t, f => .cons (f _ _ r) (Paired.mapP t f)
theorem ObjOk.stay (x : ObjOk P w H h a o) (k : ∀ b u, (b = a \/ H b = some (.own a)) -> h.get? b = some u -> h'.get? b = some u)
    (ho : ∀ b, H b = some (.own a) -> H' b = some (.own a)) (ht : ∀ b xs, H b = some (.tup xs) -> H' b = some (.tup xs)) : ObjOk P w H' h' a o := by
  induction o with
  | lst xs => obtain ⟨z, its, n, r, e⟩ := x; exact ⟨z, its, n, r, k _ _ (.inl rfl) e⟩
  | tup xs => obtain ⟨z, its, r, ob, e, c⟩ := x; exact ⟨z, its, r, ob, k _ _ (.inl rfl) e, c⟩
  | dK kvs => obtain ⟨z, y, vs, r, ob, es, ep, e, c⟩ := x; exact ⟨z, y, vs, r, ob, es, ep, k _ _ (.inl rfl) e, c⟩
  | dT kvs =>
    obtain ⟨z, y, xs, r, ob, es, ep, e, c⟩ := x
    exact ⟨z, y, xs, Paired.mapP r fun p q z => ⟨z.1, ht _ _ z.2.1, z.2.2⟩, ob, es, ep, k _ _ (.inl rfl) e, c⟩
  | set S n => obtain ⟨ob, es, ep, t, e, c⟩ := x; exact ⟨ob, es, ep, t, k _ _ (.inl rfl) e, c⟩
  | ins C dx fs =>
    obtain ⟨d, z, ne, e, mA, ⟨od, es, ep, e2, c⟩, r⟩ := x
    exact ⟨ho _ d, z, ne, k _ _ (.inl rfl) e, mA, ⟨od, es, ep, k _ _ (.inr d) e2, c⟩, r⟩
  | own y => obtain ⟨ob, e⟩ := x; exact ⟨ob, k _ _ (.inl rfl) e⟩
  | xd fs => obtain ⟨mA, ⟨od, es, ep, e, c⟩, r⟩ := x; exact ⟨mA, ⟨od, es, ep, k _ _ (.inl rfl) e, c⟩, r⟩
  | rng lo hi => obtain ⟨t, u, v, e⟩ := x; exact ⟨t, u, v, k _ _ (.inl rfl) e⟩
  | frz ob u ih => obtain ⟨e, q⟩ := x; exact ⟨k _ _ (.inl rfl) e, ih q⟩
  | tbl ps =>
    have e : h.get? a = some { cls := .none, data := .fields ps } := x
    show h'.get? a = some { cls := .none, data := .fields ps }
    exact k a _ (.inl rfl) e
  | met f y =>
    have e : h.get? a = some (PySem.W.methodObj (.ref f) (.ref y)) := x
    show h'.get? a = some (PySem.W.methodObj (.ref f) (.ref y))
    exact k a _ (.inl rfl) e
  | ext φ => obtain ⟨p, ⟨o, e⟩, st⟩ := x; exact ⟨st _ _ p fun o q => k _ _ (.inl rfl) q, ⟨o, k _ _ (.inl rfl) e⟩, st⟩
theorem HOk.lt (x : HOk P w H h) (e : H a = some o) : a < h.objs.size := (x a o e).lt
theorem HOk.fresh (x : HOk P w H h) (e : h.objs.size <= a) : H a = none := by
  cases q : H a with
  | none => rfl
  | some u => exact absurd (Nat.lt_of_lt_of_le (x.lt q) e) (Nat.lt_irrefl _)
theorem HOk.kept (x : HOk P w H h) (k : ∀ b u, h.get? b = some u -> h'.get? b = some u) : HOk P w H h' := fun a o e =>
  (x a o e).stay (fun b u _ q => k b u q) (fun _ q => q) fun _ _ q => q
theorem HOk.laid (x : HOk P w H h) (k : ∀ b u, h.get? b = some u -> h'.get? b = some u) (hp : h.objs.size <= a) (new : ObjOk P w (upd H a o) h' a o) : HOk P w (upd H a o) h' := fun b u e => by
  have hn := x.fresh hp
  by_cases hb : b = a
  . subst hb; rw [upd_same] at e; cases e; exact new
  . rw [upd_ne hb] at e
    exact (x b u e).stay (fun c v _ q => k c v q) (fun c q => by rw [upd_ne (ne_of_none q hn)]; exact q) fun c xs q => by rw [upd_ne (ne_of_none q hn)]; exact q
end

def Rd (H : Hp) (a : Addr) (u : HO) : Prop := H a = some u \/ ∃ o, H a = some (.frz o u)
theorem Rd.ok {P : Program} {w : World} {H : Hp} {h : Heap} {a : Addr} {u : HO} (r : Rd H a u) (x : HOk P w H h) : ObjOk P w H h a u := by
  rcases r with r | ⟨o, r⟩
  . exact x a u r
  . obtain ⟨_, q⟩ := x a _ r
    exact q
def Mut : Option HO -> Prop
  | some (.lst _) => True
  | some (.dK _) => True
  | some (.dT _) => True
  | some (.set _ _) => True
  | some (.ins _ _ _) => True
  | some (.ext _) => True
  | _ => False
section
variable {P : Program} {w : World} {H : Hp} {h h' : Heap} {x e : Addr} {o' : HO}
theorem HOk.write (ok : HOk P w H h) (mu : Mut (H x)) (he : e = x \/ H e = some (.own x)) (k : ∀ b u, b ≠ e -> h.get? b = some u -> h'.get? b = some u) (heo : ∃ u, h'.get? e = some u)
    (new : ObjOk P w (upd H x o') h' x o') : HOk P w (upd H x o') h' := fun b u q => by
  have nown : ∀ c y, H c = some (.own y) -> c ≠ x := fun c y r z => by subst z; rw [r] at mu; exact mu
  have ntup : ∀ c xs, H c = some (.tup xs) -> c ≠ x := fun c xs r z => by subst z; rw [r] at mu; exact mu
  by_cases hb : b = x
  . subst hb; rw [upd_same] at q; cases q; exact new
  . rw [upd_ne hb] at q
    by_cases hbe : b = e
    . have q' : H b = some (.own x) := by
        rcases he with z | z
        . exact absurd (hbe.trans z) hb
        . rw [hbe]; exact z
      rw [q] at q'; cases q'
      obtain ⟨v, hv⟩ := heo
      exact ⟨v, by rw [hbe]; exact hv⟩
    . refine (ok b u q).stay (fun c v hc r => k c v ?_ r) (fun c r => by rw [upd_ne (nown c b r)]; exact r) fun c xs r => by rw [upd_ne (ntup c xs r)]; exact r
      rcases hc with rfl | hc
      . exact hbe
      . rintro rfl
        rcases he with z | z
        . exact nown c b hc z
        . rw [hc] at z; cases z; exact hb rfl
end

structure Un (fs ex : List Addr) (H H' : Hp) (h h' : Heap) : Prop where
  keep : ∀ b o, h.get? b = some o -> H b = none -> b ∉ fs -> b ∉ ex -> h'.get? b = some o
  slot : ∀ b o, h.get? b = some o -> H b = none -> b ∈ fs -> b ∉ ex -> ∃ sl, h'.get? b = some { o with slots := sl }
  free : ∀ b o, h.get? b = some o -> H b = none -> b ∉ ex -> H' b = none
  there : ∀ b o, h.get? b = some o -> b ∉ ex -> ∃ o', h'.get? b = some o'
  tups : ∀ b xs, H b = some (.tup xs) -> H' b = some (.tup xs)
  frzs : ∀ b o u, H b = some (.frz o u) -> H' b = some (.frz o u)
  tbls : ∀ b ps, H b = some (.tbl ps) -> ∃ more, H' b = some (.tbl (ps ++ more))
section
variable {fs fs' ex ex' : List Addr} {H H1 H2 : Hp} {h h1 h2 h' : Heap} {a x e : Addr} {o : HO}
theorem Un.any (u : Un fs ex H H1 h h1) {b : Addr} {ob : Obj} (q : h.get? b = some ob) (n : H b = none) (hx : b ∉ ex) : ∃ sl, h1.get? b = some { ob with slots := sl } := by
  by_cases hb : b ∈ fs
  . exact u.slot b ob q n hb hx
  . exact ⟨ob.slots, u.keep b ob q n hb hx⟩
theorem Un.kept (k : ∀ b u, h.get? b = some u -> h'.get? b = some u) : Un fs ex H H h h' :=
  ⟨fun b ob q _ _ _ => k b ob q, fun b ob q _ _ _ => ⟨ob.slots, k b ob q⟩, fun _ _ _ n _ => n, fun b ob q _ => ⟨ob, k b ob q⟩, fun _ _ q => q, fun _ _ _ q => q, fun _ ps q => ⟨#[], by rw [q]; simp⟩⟩
theorem Un.refl : Un fs ex H H h h := Un.kept fun _ _ q => q
theorem Un.laid (k : ∀ b u, h.get? b = some u -> h'.get? b = some u) (hp : h.objs.size <= a) (hn : H a = none) : Un fs ex H (upd H a o) h h' where
  keep := fun b u q _ _ _ => k b u q
  slot := fun b u q _ _ _ => ⟨u.slots, k b u q⟩
  free := fun b u q n _ => by rw [upd_ne (Nat.ne_of_lt (Nat.lt_of_lt_of_le (Heap.lt_size q) hp))]; exact n
  there := fun b u q _ => ⟨u, k b u q⟩
  tups := fun b xs q => by rw [upd_ne (ne_of_none q hn)]; exact q
  frzs := fun b u xs q => by rw [upd_ne (ne_of_none q hn)]; exact q
  tbls := fun b ps q => ⟨#[], by rw [upd_ne (ne_of_none q hn), q]; simp⟩
theorem Un.write (mu : Mut (H x)) (he : e = x \/ H e = some (.own x)) (k : ∀ b u, b ≠ e -> h.get? b = some u -> h'.get? b = some u) (heo : ∃ u, h'.get? e = some u) : Un fs ex H (upd H x o) h h' := by
  have hx : ∀ b, H b = none -> b ≠ x := fun b n z => by subst z; rw [n] at mu; exact mu
  have hb : ∀ b, H b = none -> b ≠ e := fun b n z => by
    subst z
    rcases he with r | r
    . exact hx b n r
    . rw [n] at r; cases r
  have hm : ∀ b u, H b = some u -> ¬ Mut (some u) -> b ≠ x := fun b u q nm z => by subst z; rw [q] at mu; exact nm mu
  refine ⟨fun b u q n _ _ => k b u (hb b n) q, fun b u q n _ _ => ⟨u.slots, k b u (hb b n) q⟩, fun b u q n _ => by rw [upd_ne (hx b n)]; exact n, fun b u q _ => ?_,
    fun b xs q => by rw [upd_ne (hm b _ q fun z => z)]; exact q, fun b u xs q => by rw [upd_ne (hm b _ q fun z => z)]; exact q, fun b ps q => ⟨#[], by rw [upd_ne (hm b _ q fun z => z), q]; simp⟩⟩
  by_cases hbe : b = e
  . subst hbe; exact heo
  . exact ⟨u, k b u hbe q⟩
end

def trk (h : Heap) (H : Hp) : List Addr := (List.range h.objs.size).filter fun a => (H a).isSome
def hidT (h : Heap) (H : Hp) : Heap := PySem.W.hideAll h (trk h H)
theorem hidT_size (h : Heap) (H : Hp) : (hidT h H).objs.size = h.objs.size := PySem.W.hideAll_size _ _
theorem hidT_get {h : Heap} {H : Hp} {b : Addr} {o : Obj} (e : h.get? b = some o) (n : H b = none) : (hidT h H).get? b = some o :=
  PySem.W.hideAll_get _ e fun hm => by
    have q : (H b).isSome = true := (List.mem_filter.mp hm).2
    rw [n] at q; simp at q
theorem of_hidT {h : Heap} {H : Hp} {b : Addr} {o : Obj} (e : (hidT h H).get? b = some o) : h.get? b = some o /\ H b = none := by
  have e' : h.get? b = some o := PySem.W.of_hideAll (trk h H) e
  refine ⟨e', ?_⟩
  cases q : H b with
  | none => rfl
  | some x =>
    have hm : b ∈ trk h H := List.mem_filter.mpr ⟨List.mem_range.mpr (Heap.lt_size e'), by simp [q]⟩
    have z : (hidT h H).get? b = none := PySem.W.hideAll_none (trk h H) hm
    rw [z] at e; cases e

def allNews (g h : Heap) (L : Addr) : List (Addr × Obj) := (List.range h.objs.size).filterMap fun a => if a = L \/ (g.get? a).isSome = true then none else (h.get? a).map fun o => (a, o)
def rest (g h : Heap) (L d : Addr) : List (Addr × Obj) := (allNews g h L).filter fun p => decide (p.1 ≠ d)
end L2

namespace L2
open PySem PySem.Spec PyProof.Rows

structure Mod (K : PySem.W.Frag) (mg : Str -> Option Value) (base : Heap) : Prop where
  kin : K.In base
  glob : base.Ns mainGlobals mg
  blt : ∃ mb, base.Ns builtinsNs mb /\ ∀ x : Str, x ≠ "__name__" -> mb x = bootBuiltins x
  nolimit : base.NoLimit

structure Cx where
  prog : Program
  w : World
  K : PySem.W.Frag
  mg : Str -> Option Value
  base : Heap
  A : Around
  N : List Str
  s₀ : Shared
  H₀ : Hp
  env : Env
  outer : List Env
  stack : List Env
  ex : List Addr
  fn : Str -> Bool
  calm : Bool
  pn : List (Addr × Obj)
  xe : Value -> Shared -> Prop
def frs (l : List Env) : List Addr := l.filterMap (·.frame)
abbrev Cx.fs (X : Cx) : List Addr := frs X.outer

def Vis (sc : Scope) (x : Str) : Prop := sc.names.lookup x = some .local \/ sc.names.lookup x = some .cell \/ sc.names.lookup x = some .free
def Loc (sc : Scope) (x : Str) : Prop := sc.names.lookup x = some .local \/ sc.names.lookup x = some .cell
def Look (env : Env) (h : Heap) (m : Str -> Option Value) (x : Str) (u : Value) : Prop :=
  (env.kindOf x = some .local /\ m x = some u) \/ ((env.kindOf x = some .cell \/ env.kindOf x = some .free) /\ ∃ c, env.cells.lookup x = some c /\ h.IsCell c (some u))

structure Cx.Ok (X : Cx) : Prop where
  mod : Mod X.K X.mg X.base
  kind : X.env.scope.kind = .function
  glob : X.env.globals = mainGlobals
  blt : X.env.builtins = builtinsNs
  above : X.s₀.heap.objs.size <= X.env.locals
  inj : ∀ x y c, X.env.cells.lookup x = some c -> X.env.cells.lookup y = some c -> x = y
  has : ∀ x, (X.env.kindOf x = some .cell \/ X.env.kindOf x = some .free) -> ∃ c, X.env.cells.lookup x = some c
  cab : ∀ x c, X.fn x = true -> X.env.cells.lookup x = some c -> X.s₀.heap.objs.size <= c
  hd : X.calm = true -> X.A.handled = none
  frames : X.A.frames = some X.stack
  stk : X.stack = X.outer \/ (X.stack = X.env :: X.outer /\ X.env.frame = some X.env.locals)
  exf : ∀ b ∈ X.ex, b ≠ X.env.locals /\ ∀ x c, X.env.cells.lookup x = some c -> c ≠ b
  bs : ∀ b o, X.base.get? b = some o -> X.s₀.heap.get? b = some o /\ X.H₀ b = none
  bsz : X.base.objs.size <= X.s₀.heap.objs.size
  noex : ∀ b o, X.base.get? b = some o -> b ∉ X.ex
  exfs : ∀ b ∈ X.ex, b ∉ X.fs
  funs : X.s₀.heap.FunFrames X.base X.outer
  frf : ∀ b ∈ X.fs, X.H₀ b = none

structure Inv (X : Cx) (pins : List (Addr × Obj)) (σ : List (Option V)) (H : Hp) (s : Shared) : Prop where
  ok : X.Ok
  os : s.os = X.s₀.os
  bare : AllBare s.gens
  base : Un X.fs X.ex X.H₀ H X.s₀.heap s.heap
  loc : ∃ m, s.heap.Ns X.env.locals m /\ ∀ (i : Nat) (x : Str) (v : V), X.N[i]? = some x -> σ[i]? = some (some v) -> Vis X.env.scope x -> ∃ u, RelV v u /\ Look X.env s.heap m x u
  cell : ∀ x c, X.env.cells.lookup x = some c -> ∃ v, s.heap.IsCell c v
  free : H X.env.locals = none
  freeC : ∀ x c, X.env.cells.lookup x = some c -> H c = none
  pin : ∀ p ∈ X.pn ++ pins, s.heap.get? p.1 = some p.2 /\ H p.1 = none /\ p.1 ≠ X.env.locals /\ p.1 ∉ X.fs /\ ∀ v, p.2.data ≠ .cell v
  hok : HOk X.prog X.w H s.heap
  len : σ.length = X.N.length

section
variable {X : Cx} {pins : List (Addr × Obj)} {σ : List (Option V)} {H H' : Hp} {s : Shared} {h' : Heap}

theorem Cx.Ok.nofr (ok : X.Ok) {b : Addr} {o : Obj} (e : X.base.get? b = some o) : b ∉ X.fs := fun hb => by
  have := (ok.funs.mem hb).1
  rw [e] at this; cases this
theorem Inv.bs (I : Inv X pins σ H s) : ∀ b o, X.base.get? b = some o -> s.heap.get? b = some o /\ H b = none := fun b o e =>
  ⟨I.base.keep b o (I.ok.bs b o e).1 (I.ok.bs b o e).2 (I.ok.nofr e) (I.ok.noex b o e), I.base.free b o (I.ok.bs b o e).1 (I.ok.bs b o e).2 (I.ok.noex b o e)⟩
theorem Inv.bk (I : Inv X pins σ H s) : ∀ b o, X.base.get? b = some o -> s.heap.get? b = some o := fun b o e => (I.bs b o e).1
theorem Inv.mod (I : Inv X pins σ H s) : Mod X.K X.mg X.base := I.ok.mod
theorem Inv.kIn (I : Inv X pins σ H s) : X.K.In s.heap := I.ok.mod.kin.keeps I.bk
theorem Inv.lt (I : Inv X pins σ H s) : X.env.locals < s.heap.objs.size := let ⟨_, hn, _⟩ := I.loc; hn.lt
theorem Inv.sz (I : Inv X pins σ H s) : X.s₀.heap.objs.size <= s.heap.objs.size := Nat.le_trans I.ok.above (Nat.le_of_lt I.lt)
theorem Inv.nofs (I : Inv X pins σ H s) {a : Addr} (h : s.heap.objs.size <= a) : a ∉ X.fs := fun hb => by
  obtain ⟨_, o, ho, _⟩ := I.ok.funs.mem hb
  exact absurd (Nat.lt_of_lt_of_le (Heap.lt_size ho) (Nat.le_trans I.sz h)) (Nat.lt_irrefl _)
theorem Inv.cne (I : Inv X pins σ H s) : ∀ x c, X.env.cells.lookup x = some c -> c ≠ X.env.locals := fun x c e z => by
  obtain ⟨v, o, ho, hd⟩ := I.cell x c e
  obtain ⟨m, ⟨o', es, ep, ho', hd', _⟩, _⟩ := I.loc
  rw [z, ho'] at ho; cases ho; rw [hd'] at hd; cases hd
theorem Inv.funs (I : Inv X pins σ H s) : s.heap.FunFrames X.base X.outer := by
  have all : ∀ (l : List Env), (∀ b ∈ frs l, b ∈ X.fs) -> X.s₀.heap.FunFrames X.base l -> s.heap.FunFrames X.base l := by
    intro l
    induction l with
    | nil => intro _ _; trivial
    | cons env r ih =>
      intro hs hl
      obtain ⟨hk, ⟨L, o, hf, hn, ho, hd⟩, hr⟩ := hl
      have hL : L ∈ X.fs := hs L (by unfold frs; rw [List.filterMap_cons, hf]; exact List.mem_cons_self)
      obtain ⟨sl, e⟩ := I.base.slot L o ho (I.ok.frf L hL) hL fun z => I.ok.exfs L z hL
      exact ⟨hk, ⟨L, _, hf, hn, e, hd⟩, ih (fun b hb => hs b (by unfold frs; rw [List.filterMap_cons, hf]; exact List.mem_cons_of_mem _ hb)) hr⟩
  exact all X.outer (fun _ hb => hb) I.ok.funs

theorem Inv.stack (I : Inv X pins σ H s) : s.heap.FunFrames X.base X.stack := by
  rcases I.ok.stk with e | ⟨e, hf⟩
  . rw [e]; exact I.funs
  . rw [e]
    obtain ⟨m, hn, _⟩ := I.loc
    refine .cons (by rw [I.ok.kind]; decide) hf hn ?_ I.funs
    exact Heap.get?_none_of_le (Nat.le_trans I.ok.bsz I.ok.above)
theorem Inv.stkSub (I : Inv X pins σ H s) : ∀ b ∈ frs X.stack, b ∈ X.env.locals :: X.fs := fun b hb => by
  rcases I.ok.stk with e | ⟨e, hf⟩
  . rw [e] at hb; exact List.mem_cons_of_mem _ hb
  . rw [e] at hb
    unfold frs at hb
    rw [List.filterMap_cons, hf] at hb
    exact hb
theorem Inv.stkFree (I : Inv X pins σ H s) : ∀ b ∈ frs X.stack, H b = none := fun b hb => by
  rcases List.mem_cons.mp (I.stkSub b hb) with e | hb
  . rw [e]; exact I.free
  . obtain ⟨_, o, ho, _⟩ := I.ok.funs.mem hb
    exact I.base.free b o ho (I.ok.frf b hb) fun z => I.ok.exfs b z hb

theorem Inv.step {g' : Array GenState} {t' : Nat} {d' : Drawn} {ch : List Addr} (I : Inv X pins σ H s)
    (hch : ∀ b ∈ ch, (b ∈ X.ex \/ X.s₀.heap.objs.size <= b) /\ b ≠ X.env.locals /\ (∀ x c, X.env.cells.lookup x = some c -> c ≠ b) /\ ∀ p ∈ X.pn ++ pins, p.1 ≠ b)
    (keep : ∀ b o, b ≠ X.env.locals -> b ∉ X.fs -> b ∉ ch -> s.heap.get? b = some o -> H b = none -> h'.get? b = some o)
    (slot : ∀ b o, b ≠ X.env.locals -> b ∈ X.fs -> b ∉ ch -> s.heap.get? b = some o -> H b = none -> ∃ sl, h'.get? b = some { o with slots := sl }) (free : ∀ b o, b ∉ ch -> s.heap.get? b = some o -> H b = none -> H' b = none)
    (there : ∀ b o, b ∉ ch -> s.heap.get? b = some o -> ∃ o', h'.get? b = some o')
    (tups : ∀ b xs, H b = some (.tup xs) -> H' b = some (.tup xs)) (frzs : ∀ b o u, H b = some (.frz o u) -> H' b = some (.frz o u)) (tbls : ∀ b ps, H b = some (.tbl ps) -> ∃ more, H' b = some (.tbl (ps ++ more)))
    (ns : ∀ m, s.heap.Ns X.env.locals m -> h'.Ns X.env.locals m) (hok : HOk X.prog X.w H' h') (hg : AllBare g') :
    Inv X pins σ H' { s with heap := h', gens := g', drawn := d', toks := t' } := by
  have neL : ∀ b o, X.s₀.heap.get? b = some o -> b ≠ X.env.locals := fun b o e => Nat.ne_of_lt (Nat.lt_of_lt_of_le (Heap.lt_size e) I.ok.above)
  have neC : ∀ b o, X.s₀.heap.get? b = some o -> b ∉ X.ex -> b ∉ ch := fun b o e hx hb => by
    rcases (hch b hb).1 with z | z
    . exact hx z
    . exact absurd (Nat.lt_of_lt_of_le (Heap.lt_size e) z) (Nat.lt_irrefl _)
  have cellK : ∀ x c, X.env.cells.lookup x = some c -> ∀ v, s.heap.IsCell c v -> h'.IsCell c v := fun x c e v ⟨o, ho, hd⟩ => by
    have nch : c ∉ ch := fun z => (hch c z).2.2.1 x c e rfl
    by_cases hc : c ∈ X.fs
    . obtain ⟨sl, q⟩ := slot c o (I.cne x c e) hc nch ho (I.freeC x c e)
      exact ⟨_, q, hd⟩
    . exact ⟨o, keep c o (I.cne x c e) hc nch ho (I.freeC x c e), hd⟩
  refine ⟨I.ok, I.os, hg, ⟨fun b o e n hb hx => ?_, fun b o e n hb hx => ?_, fun b o e n hx => ?_, fun b o e hx => ?_, fun b xs e => tups b xs (I.base.tups b xs e), fun b o xs e => frzs b o xs (I.base.frzs b o xs e), fun b ps e => ?_⟩, ?_, fun x c e => ?_, ?_, fun x c e => ?_, fun p hp => ?_, hok, I.len⟩
  . exact keep b o (neL b o e) hb (neC b o e hx) (I.base.keep b o e n hb hx) (I.base.free b o e n hx)
  . obtain ⟨sl, e1⟩ := I.base.slot b o e n hb hx
    obtain ⟨sl', e2⟩ := slot b _ (neL b o e) hb (neC b o e hx) e1 (I.base.free b o e n hx)
    exact ⟨sl', e2⟩
  . obtain ⟨o', e1⟩ := I.base.there b o e hx
    exact free b o' (neC b o e hx) e1 (I.base.free b o e n hx)
  . obtain ⟨o', e1⟩ := I.base.there b o e hx
    exact there b o' (neC b o e hx) e1
  . obtain ⟨m1, e1⟩ := I.base.tbls b ps e
    obtain ⟨m2, e2⟩ := tbls b _ e1
    exact ⟨m1 ++ m2, by rw [e2, Array.append_assoc]⟩
  . obtain ⟨m, hn, hl⟩ := I.loc
    refine ⟨m, ns m hn, fun i x v e1 e2 e3 => ?_⟩
    obtain ⟨u, r, l⟩ := hl i x v e1 e2 e3
    refine ⟨u, r, ?_⟩
    rcases l with l | ⟨k, c, e, z⟩
    . exact .inl l
    . exact .inr ⟨k, c, e, cellK x c e _ z⟩
  . obtain ⟨v, z⟩ := I.cell x c e
    exact ⟨v, cellK x c e v z⟩
  . obtain ⟨m, ⟨o, _, _, ho, _⟩, _⟩ := I.loc
    exact free _ o (fun z => (hch _ z).2.1 rfl) ho I.free
  . obtain ⟨v, o, ho, hd⟩ := I.cell x c e
    exact free c o (fun z => (hch c z).2.2.1 x c e rfl) ho (I.freeC x c e)
  . obtain ⟨e, n, ne, nf, d⟩ := I.pin p hp
    have nch : p.1 ∉ ch := fun z => (hch p.1 z).2.2.2 p hp rfl
    exact ⟨keep p.1 p.2 ne nf nch e n, free p.1 p.2 nch e n, ne, nf, d⟩
theorem Inv.un {t' : Nat} (I : Inv X pins σ H s) (u : Un X.fs [] H H' s.heap h') (hok : HOk X.prog X.w H' h') : Inv X pins σ H' { s with heap := h', toks := t' } := by
  obtain ⟨m, ⟨o, es, ep, ho, r⟩, _⟩ := id I.loc
  obtain ⟨sl, hL⟩ := u.any ho I.free (by simp)
  exact I.step (g' := s.gens) (d' := s.drawn) (ch := []) (fun _ z => nomatch z) (fun b o _ hb _ e n => u.keep b o e n hb (by simp)) (fun b o _ hb _ e n => u.slot b o e n hb (by simp)) (fun b o _ e n => u.free b o e n (by simp)) (fun b o _ e => u.there b o e (by simp)) u.tups u.frzs u.tbls (fun m' hm => by
    obtain ⟨o', es', ep', ho', r'⟩ := hm
    rw [ho] at ho'; cases ho'
    exact ⟨_, es', ep', hL, r'⟩) hok I.bare
theorem Inv.call {g' : Array GenState} {t' : Nat} {d' : Drawn} {ch : List Addr} (I : Inv X pins σ H s) (u : Un (frs X.stack) ch H H' s.heap h') (hok : HOk X.prog X.w H' h') (hg : AllBare g')
    (hch : ∀ b ∈ ch, (b ∈ X.ex \/ X.s₀.heap.objs.size <= b) /\ b ≠ X.env.locals /\ (∀ x c, X.env.cells.lookup x = some c -> c ≠ b) /\ ∀ p ∈ X.pn ++ pins, p.1 ≠ b) :
    Inv X pins σ H' { s with heap := h', gens := g', drawn := d', toks := t' } := by
  obtain ⟨m, ⟨o, es, ep, ho, r⟩, _⟩ := id I.loc
  obtain ⟨sl, hL⟩ := u.any ho I.free fun z => (hch _ z).2.1 rfl
  exact I.step (ch := ch) hch (fun b o hL hb hc e n => u.keep b o e n (fun z => (List.mem_cons.mp (I.stkSub b z)).elim hL hb) hc) (fun b o _ _ hc e n => u.any e n hc) (fun b o hc e n => u.free b o e n hc) (fun b o hc e => u.there b o e hc) u.tups u.frzs u.tbls (fun m' hm => by
    obtain ⟨o', es', ep', ho', r'⟩ := hm
    rw [ho] at ho'; cases ho'
    exact ⟨_, es', ep', hL, r'⟩) hok hg
theorem Inv.turned {t' : Nat} {it : Addr} (I : Inv X pins σ H s) (k : ∀ b o, b ≠ it -> s.heap.get? b = some o -> h'.get? b = some o) (hn : H it = none) (hL : it ≠ X.env.locals)
    (h1 : it ∈ X.ex \/ X.s₀.heap.objs.size <= it) (h2 : ∀ x c, X.env.cells.lookup x = some c -> c ≠ it) (h3 : ∀ p ∈ X.pn ++ pins, p.1 ≠ it) : Inv X pins σ H { s with heap := h', toks := t' } := by
  have nit : ∀ b u, H b = some u -> b ≠ it := fun b u e z => by rw [z, hn] at e; cases e
  refine I.step (g' := s.gens) (d' := s.drawn) (ch := [it]) (fun b hb => ?_) (fun b o _ _ hc e _ => k b o (fun z => hc (by simp [z])) e) (fun b o _ _ hc e _ => ⟨o.slots, k b o (fun z => hc (by simp [z])) e⟩) (fun _ _ _ _ n => n)
    (fun b o hc e => ⟨o, k b o (fun z => hc (by simp [z])) e⟩) (fun _ _ e => e) (fun _ _ _ e => e) (fun b ps e => ⟨#[], by rw [e]; simp⟩) (fun m hm => ?_) (fun b u e => ?_) I.bare
  . have e : b = it := by simpa using hb
    subst e
    exact ⟨h1, hL, h2, h3⟩
  . obtain ⟨o, es, ep, ho, r⟩ := hm
    exact ⟨o, es, ep, k _ o (Ne.symm hL) ho, r⟩
  . refine (I.hok b u e).stay (fun c v hc q => k c v ?_ q) (fun _ q => q) fun _ _ q => q
    rcases hc with z | z
    . rw [z]; exact nit b u e
    . exact nit c _ z
theorem Inv.tok (I : Inv X pins σ H s) (t : Nat) : Inv X pins σ H { s with toks := t } := I.un (h' := s.heap) (t' := t) Un.refl I.hok
theorem Inv.kept {t' : Nat} (I : Inv X pins σ H s) (k : ∀ b u, s.heap.get? b = some u -> h'.get? b = some u) : Inv X pins σ H { s with heap := h', toks := t' } := I.un (Un.kept k) (I.hok.kept k)
theorem Inv.laid {a : Addr} {o : HO} {t' : Nat} (I : Inv X pins σ H s) (k : ∀ b u, s.heap.get? b = some u -> h'.get? b = some u) (hp : s.heap.objs.size <= a) (new : ObjOk X.prog X.w (upd H a o) h' a o) :
    Inv X pins σ (upd H a o) { s with heap := h', toks := t' } := I.un (Un.laid k hp (I.hok.fresh hp)) (I.hok.laid k hp new)
theorem Inv.write {x e : Addr} {o : HO} {t' : Nat} (I : Inv X pins σ H s) (mu : Mut (H x)) (he : e = x \/ H e = some (.own x)) (k : ∀ b u, b ≠ e -> s.heap.get? b = some u -> h'.get? b = some u) (heo : ∃ u, h'.get? e = some u)
    (new : ObjOk X.prog X.w (upd H x o) h' x o) : Inv X pins σ (upd H x o) { s with heap := h', toks := t' } := I.un (Un.write mu he k heo) (I.hok.write mu he k heo new)
theorem Inv.weak {σ' : List (Option V)} (I : Inv X pins σ H s) (hl : σ'.length = σ.length) (w : ∀ (i : Nat) v, σ'[i]? = some (some v) -> σ[i]? = some (some v)) : Inv X pins σ' H s :=
  ⟨I.ok, I.os, I.bare, I.base, let ⟨m, hn, hl'⟩ := I.loc; ⟨m, hn, fun i x v e1 e2 e3 => hl' i x v e1 (w i v e2) e3⟩, I.cell, I.free, I.freeC, I.pin, I.hok, hl.trans I.len⟩
theorem Inv.pins_of {pins' : List (Addr × Obj)} (I : Inv X pins σ H s) (h : ∀ p ∈ pins', s.heap.get? p.1 = some p.2 /\ H p.1 = none /\ p.1 ≠ X.env.locals /\ p.1 ∉ X.fs /\ ∀ v, p.2.data ≠ .cell v) : Inv X pins' σ H s :=
  ⟨I.ok, I.os, I.bare, I.base, I.loc, I.cell, I.free, I.freeC, fun p hp => (List.mem_append.mp hp).elim (fun z => I.pin p (List.mem_append_left _ z)) (h p), I.hok, I.len⟩

theorem nodup_ix {N : List Str} (hN : N.Nodup) {i j : Nat} {x : Str} (a : N[i]? = some x) (b : N[j]? = some x) : i = j := by
  obtain ⟨h1, e1⟩ := List.getElem?_eq_some_iff.mp a
  obtain ⟨h2, e2⟩ := List.getElem?_eq_some_iff.mp b
  exact (List.getElem_inj hN).mp (e1.trans e2.symm)

theorem store_ok2 {M : Model} {A : Around} {E : Value -> Shared -> Prop} {i : Nat} {x : Str} {v : V} {u : Value} {Q : Unit -> Shared -> Prop} (I : Inv X pins σ H s) (hN : X.N.Nodup) (hi : X.N[i]? = some x) (hx : Loc X.env.scope x) (r : RelV v u)
    (h : ∀ s', Inv X pins (σ.set i (some v)) H s' -> (∃ a, Heap.SameBut a s.heap s'.heap /\ (a = X.env.locals \/ X.env.cells.lookup x = some a)) -> Q () s') (hf : X.fn x = true \/ X.env.scope.names.lookup x = some .local := by first | exact .inl rfl | exact .inr rfl | assumption) : wpAny M A (storeName X.env x u) Q E s := by
  obtain ⟨m, hn, hl⟩ := id I.loc
  have hcls : (X.env.scope.kind == .class || (X.env.scope.kind == .module && X.env.locals != X.env.globals)) = false := by rw [I.ok.kind]; rfl
  have hiσ : i < σ.length := by rw [I.len]; exact (List.getElem?_eq_some_iff.mp hi).1
  have cne := I.cne
  have tracked : ∀ {a : Addr} {h' : Heap}, (∃ o, s.heap.get? a = some o /\ H a = none) -> Heap.SameBut a s.heap h' -> HOk X.prog X.w H h' := fun {a h'} ha hs b ob e => by
    obtain ⟨_, _, hfree⟩ := ha
    refine (I.hok b ob e).stay (fun c w' hc q => (hs.2 c ?_).trans q) (fun _ q => q) fun _ _ q => q
    rintro rfl
    rcases hc with rfl | hc
    . rw [hfree] at e; cases e
    . rw [hfree] at hc; cases hc
  rcases hx with hk | hk
  . refine wpAny_storeName_local hk hn (fun h' hn' hs => ?_) hcls
    obtain ⟨oL, _, _, hoL, _⟩ := id hn
    refine h _ ⟨I.ok, I.os, I.bare, ⟨fun b o e n hb hx => ?_, fun b o e n hb hx => ?_, I.base.free, fun b o e hx => ?_, I.base.tups, I.base.frzs, I.base.tbls⟩, ⟨_, hn', fun j y v' e1 e2 e3 => ?_⟩, fun y c e => ?_, I.free, I.freeC, fun p hp => ?_, tracked ⟨oL, hoL, I.free⟩ hs, by simpa using I.len⟩ ⟨_, hs, .inl rfl⟩
    . exact (hs.2 b (Nat.ne_of_lt (Nat.lt_of_lt_of_le (Heap.lt_size e) I.ok.above))).trans (I.base.keep b o e n hb hx)
    . obtain ⟨sl, e1⟩ := I.base.slot b o e n hb hx
      exact ⟨sl, (hs.2 b (Nat.ne_of_lt (Nat.lt_of_lt_of_le (Heap.lt_size e) I.ok.above))).trans e1⟩
    . obtain ⟨o', e1⟩ := I.base.there b o e hx
      exact ⟨o', (hs.2 b (Nat.ne_of_lt (Nat.lt_of_lt_of_le (Heap.lt_size e) I.ok.above))).trans e1⟩
    . by_cases hj : j = i
      . subst hj
        rw [hi] at e1; cases e1
        rw [List.getElem?_set_self hiσ] at e2
        cases e2
        exact ⟨u, r, .inl ⟨hk, by simp⟩⟩
      . rw [List.getElem?_set_ne (Ne.symm hj)] at e2
        obtain ⟨u', r', q⟩ := hl j y v' e1 e2 e3
        refine ⟨u', r', ?_⟩
        rcases q with ⟨k, e⟩ | ⟨k, c, e, z⟩
        . refine .inl ⟨k, ?_⟩
          have : y ≠ x := fun e => hj (nodup_ix hN e1 (e ▸ hi))
          simp [this, e]
        . exact .inr ⟨k, c, e, z.sameBut hs (cne y c e)⟩
    . obtain ⟨w', z⟩ := I.cell y c e
      exact ⟨w', z.sameBut hs (cne y c e)⟩
    . obtain ⟨e, n, ne, nf, d⟩ := I.pin p hp
      exact ⟨(hs.2 p.1 ne).trans e, n, ne, nf, d⟩
  . have hfn : X.fn x = true := by
      rcases hf with z | z
      . exact z
      . rw [z] at hk; cases hk
    obtain ⟨c, hc⟩ := I.ok.has x (.inl hk)
    obtain ⟨w', z⟩ := I.cell x c hc
    refine wpAny_storeName_cell I.ok.kind hk hc z (fun h' hc' hs => ?_)
    obtain ⟨oc, hoc, hocd⟩ := id z
    refine h { s with heap := h' } ⟨I.ok, I.os, I.bare, ⟨fun b o e n hb hx => ?_, fun b o e n hb hx => ?_, I.base.free, fun b o e hx => ?_, I.base.tups, I.base.frzs, I.base.tbls⟩, ⟨m, hn.sameBut hs (Ne.symm (cne x c hc)), fun j y v' e1 e2 e3 => ?_⟩, fun y c' e => ?_, I.free, I.freeC, fun p hp => ?_, tracked ⟨oc, hoc, I.freeC x c hc⟩ hs, by simpa using I.len⟩ ⟨c, hs, .inr hc⟩
    . exact (hs.2 b (Nat.ne_of_lt (Nat.lt_of_lt_of_le (Heap.lt_size e) (I.ok.cab x c hfn hc)))).trans (I.base.keep b o e n hb hx)
    . obtain ⟨sl, e1⟩ := I.base.slot b o e n hb hx
      exact ⟨sl, (hs.2 b (Nat.ne_of_lt (Nat.lt_of_lt_of_le (Heap.lt_size e) (I.ok.cab x c hfn hc)))).trans e1⟩
    . obtain ⟨o', e1⟩ := I.base.there b o e hx
      exact ⟨o', (hs.2 b (Nat.ne_of_lt (Nat.lt_of_lt_of_le (Heap.lt_size e) (I.ok.cab x c hfn hc)))).trans e1⟩
    . by_cases hj : j = i
      . subst hj
        rw [hi] at e1; cases e1
        rw [List.getElem?_set_self hiσ] at e2
        cases e2
        exact ⟨u, r, .inr ⟨.inl hk, c, hc, hc'⟩⟩
      . rw [List.getElem?_set_ne (Ne.symm hj)] at e2
        obtain ⟨u', r', q⟩ := hl j y v' e1 e2 e3
        refine ⟨u', r', ?_⟩
        rcases q with q | ⟨k, c', e, z'⟩
        . exact .inl q
        . refine .inr ⟨k, c', e, z'.sameBut hs ?_⟩
          rintro rfl
          exact hj (nodup_ix hN e1 (I.ok.inj _ _ _ e hc ▸ hi))
    . by_cases hcc : c' = c
      . subst hcc; exact ⟨_, hc'⟩
      . obtain ⟨w2, z2⟩ := I.cell y c' e
        exact ⟨w2, z2.sameBut hs hcc⟩
    . obtain ⟨e, n, ne, nf, d⟩ := I.pin p hp
      refine ⟨(hs.2 p.1 ?_).trans e, n, ne, nf, d⟩
      intro q
      rw [q, hoc] at e
      have q' : oc = p.2 := Option.some.inj e
      exact d w' (by rw [<- q']; exact hocd)
theorem store_ok {M : Model} {A : Around} {E : Value -> Shared -> Prop} {i : Nat} {x : Str} {v : V} {u : Value} {Q : Unit -> Shared -> Prop} (I : Inv X pins σ H s) (hN : X.N.Nodup) (hi : X.N[i]? = some x) (hx : Loc X.env.scope x) (r : RelV v u)
    (h : ∀ s', Inv X pins (σ.set i (some v)) H s' -> Q () s') (hf : X.fn x = true \/ X.env.scope.names.lookup x = some .local := by first | exact .inl rfl | exact .inr rfl | assumption) : wpAny M A (storeName X.env x u) Q E s :=
  store_ok2 I hN hi hx r (fun s' I' _ => h s' I') hf
theorem Inv.call' {s' : Shared} {ch : List Addr} (I : Inv X pins σ H s) (ho : s'.os = s.os) (u : Un (frs X.stack) ch H H' s.heap s'.heap) (hok : HOk X.prog X.w H' s'.heap) (hg : AllBare s'.gens)
    (hch : ∀ b ∈ ch, (b ∈ X.ex \/ X.s₀.heap.objs.size <= b) /\ b ≠ X.env.locals /\ (∀ x c, X.env.cells.lookup x = some c -> c ≠ b) /\ ∀ p ∈ X.pn ++ pins, p.1 ≠ b) : Inv X pins σ H' s' := by
  obtain ⟨h', g', d', t', o'⟩ := s'
  have e : o' = s.os := ho
  subst e
  exact I.call (g' := g') (t' := t') (d' := d') u hok hg hch
end

abbrev XK := Value -> Option Addr -> Hp -> Prop
abbrev St := List (Option V)
abbrev VK := V -> Hp -> Prop
abbrev TE := St -> Hp -> VK -> Prop
abbrev TT := St -> Hp -> (Bool -> Hp -> Prop) -> Prop
abbrev TA := St -> Hp -> (List V -> Hp -> Prop) -> Prop
structure Ends where
  nx : St -> Hp -> Prop
  rt : VK
  bk : St -> Hp -> Prop := fun _ _ => False
  ct : St -> Hp -> Prop := fun _ _ => False
abbrev TS := Ends -> St -> Hp -> Prop

def EP (X : Cx) (pins : List (Addr × Obj)) (σ : St) (Q : VK) (u : Value) (s' : Shared) : Prop := ∃ v H', Inv X pins σ H' s' /\ RelV v u /\ Q v H'
def TP (X : Cx) (pins : List (Addr × Obj)) (σ : St) (Q : Bool -> Hp -> Prop) (b : Bool) (s' : Shared) : Prop := ∃ H', Inv X pins σ H' s' /\ Q b H'
def AP (X : Cx) (pins : List (Addr × Obj)) (σ : St) (Q : List V -> Hp -> Prop) (us : List Value) (s' : Shared) : Prop := ∃ vs H', Inv X pins σ H' s' /\ Vals vs us /\ Q vs H'
def SP (X : Cx) (pins : List (Addr × Obj)) (D : Ends) (f : Flow) (s' : Shared) : Prop :=
  match f with
  | .next => ∃ σ' H', Inv X pins σ' H' s' /\ D.nx σ' H'
  | .brk => ∃ σ' H', Inv X pins σ' H' s' /\ D.bk σ' H'
  | .cont => ∃ σ' H', Inv X pins σ' H' s' /\ D.ct σ' H'
  | .ret u => ∃ v σ' H', Inv X pins σ' H' s' /\ RelV v u /\ D.rt v H'

def PE (X : Cx) (e : Expr) (t : TE) : Prop :=
  ∀ (pins : List (Addr × Obj)) (s : Shared) (σ : St) (H : Hp) (Q : VK), Inv X pins σ H s -> t σ H Q -> wpAny (model X.prog X.w) X.A (eval e X.env) (EP X pins σ Q) X.xe s
def PT (X : Cx) (e : Expr) (t : TT) : Prop :=
  ∀ (pins : List (Addr × Obj)) (s : Shared) (σ : St) (H : Hp) (Q : Bool -> Hp -> Prop), Inv X pins σ H s -> t σ H Q -> wpAny (model X.prog X.w) X.A (isTrue e X.env (eval e X.env)) (TP X pins σ Q) X.xe s
def PW (X : Cx) (e : Expr) (t : TT) : Prop :=
  ∀ (whole : Sem Value) (pins : List (Addr × Obj)) (s : Shared) (σ : St) (H : Hp) (Q : Bool -> Hp -> Prop), Inv X pins σ H s -> t σ H Q -> wpAny (model X.prog X.w) X.A (isTrue e X.env whole) (TP X pins σ Q) X.xe s
theorem PW.pt {X : Cx} {e : Expr} {t : TT} (h : PW X e t) : PT X e t := h _
def PA (X : Cx) (es : List Expr) (t : TA) : Prop :=
  ∀ (pos : Pos) (pins : List (Addr × Obj)) (s : Shared) (σ : St) (H : Hp) (Q : List V -> Hp -> Prop), Inv X pins σ H s -> t σ H Q -> wpAny (model X.prog X.w) X.A (spliced (backTo pos (starEach es X.env))) (AP X pins σ Q) X.xe s
def PS (X : Cx) (st : Stmt) (t : TS) : Prop :=
  ∀ (pins : List (Addr × Obj)) (s : Shared) (σ : St) (H : Hp) (D : Ends), Inv X pins σ H s -> t D σ H -> wpAny (model X.prog X.w) X.A (exec st X.env) (SP X pins D) X.xe s
def PSs (X : Cx) (st : List Stmt) (t : TS) : Prop :=
  ∀ (pins : List (Addr × Obj)) (s : Shared) (σ : St) (H : Hp) (D : Ends), Inv X pins σ H s -> t D σ H -> wpAny (model X.prog X.w) X.A (execs st X.env) (SP X pins D) X.xe s
theorem thn {α : Type} {t : Sem α} {Q Q' : α -> Shared -> Prop} {M : Model} {A : Around} {E : Value -> Shared -> Prop} {s : Shared} (h : wpAny M A t Q E s) (hQ : ∀ a s, Q a s -> Q' a s) : wpAny M A t Q' E s := wpAny_mono h hQ fun _ _ x => x
end L2

namespace L2
open PySem PySem.Spec PyProof.Rows
section
variable {X : Cx}

def tVar (i : Nat) : TE := fun σ H Q => ∃ v, σ[i]? = some (some v) /\ Q v H
def tC (v : V) : TE := fun _ H Q => Q v H
theorem pe_var {i : Nat} {x : Str} {pos : Pos} (hN : X.N[i]? = some x) (hv : Vis X.env.scope x) (hd : (x == ("__debug__" : Str)) = false := by decide) (hcd : (x == ("__classdict__" : Str)) = false := by decide) : PE X (.Name x pos) (tVar i) := by
  intro pins s σ H Q I h
  obtain ⟨v, e, h⟩ := h
  obtain ⟨m, hn, hl⟩ := I.loc
  obtain ⟨u, r, l⟩ := hl i x v hN e hv
  have fin : EP X pins σ Q u s := ⟨v, H, I, r, h⟩
  rcases l with ⟨hk, hm⟩ | ⟨hk, c, hc, hcell⟩
  . exact wpAny_Name (wpAny_loadName_local I.ok.kind hk hn hm fin) hd
  . rcases hk with hk | hk
    . exact wpAny_Name (wpAny_loadName_cell I.ok.kind hk hc hcell fin) hd
    . exact wpAny_Name (wpAny_loadName_free I.ok.kind hk hc hcell fin hcd) hd
theorem pe_int {i j pos} : PE X (.Constant (.int i) j pos) (tC (.int i)) := fun _ _ _ H _ I h => wpAny_Constant_int ⟨.int i, H, I.tok _, ⟨_, rfl⟩, h⟩
theorem pe_bl {b j pos} : PE X (.Constant (.bool b) j pos) (tC (.bl b)) := fun _ _ _ H _ I h => Constant_bool ⟨.bl b, H, I, rfl, h⟩
theorem pe_non {j pos} : PE X (.Constant .none j pos) (tC .non) := fun _ _ _ H _ I h => Constant_none ⟨.non, H, I, rfl, h⟩
theorem pe_str {x j pos} : PE X (.Constant (.str x) j pos) (tC (.str x)) := fun _ _ _ H _ I h => Calls.Constant_str ⟨.str x, H, I.tok _, ⟨_, rfl⟩, h⟩

def Gl (X : Cx) (x : Str) : Prop := X.env.kindOf x = some .globalImplicit
theorem ld_glob {E : Value -> Shared -> Prop} {pins : List (Addr × Obj)} {s : Shared} {σ : St} {H : Hp} {x : Str} {u : Value} {pos : Pos} {Q : Value -> Shared -> Prop} (I : Inv X pins σ H s) (hg : Gl X x) (hm : X.mg x = some u) (h : Q u s)
    (hd : (x == ("__debug__" : Str)) = false := by decide) : wpAny (model X.prog X.w) X.A (eval (.Name x pos) X.env) Q E s :=
  Calls.Name_function_global I.ok.kind hg (Calls.loadGlobal_global (by rw [I.ok.glob]; exact I.mod.glob.keeps I.bk) hm h) hd
theorem ld_blt {E : Value -> Shared -> Prop} {pins : List (Addr × Obj)} {s : Shared} {σ : St} {H : Hp} {x : Str} {u : Value} {pos : Pos} {Q : Value -> Shared -> Prop} (I : Inv X pins σ H s) (hg : Gl X x) (hm : X.mg x = none) (hv : bootBuiltins x = some u) (h : Q u s)
    (hn : x ≠ "__name__" := by decide) (hd : (x == ("__debug__" : Str)) = false := by decide) : wpAny (model X.prog X.w) X.A (eval (.Name x pos) X.env) Q E s := by
  obtain ⟨mb, h1, h2⟩ := I.mod.blt
  exact Calls.Name_function_global I.ok.kind hg (Calls.loadGlobal_builtin (by rw [I.ok.glob]; exact I.mod.glob.keeps I.bk) hm (by rw [I.ok.blt]; exact h1.keeps I.bk) ((h2 x hn).trans hv) h) hd
theorem pe_glob {x : Str} {v : V} {u : Value} {pos : Pos} (hg : Gl X x) (hm : X.mg x = some u) (r : RelV v u) (hd : (x == ("__debug__" : Str)) = false := by decide) : PE X (.Name x pos) (tC v) :=
  fun _ _ _ H _ I h => ld_glob I hg hm ⟨v, H, I, r, h⟩ hd
theorem pe_bltn {x : Str} {v : V} {u : Value} {pos : Pos} (hg : Gl X x) (hm : X.mg x = none) (hv : bootBuiltins x = some u) (r : RelV v u) (hn : x ≠ "__name__" := by decide) (hd : (x == ("__debug__" : Str)) = false := by decide) : PE X (.Name x pos) (tC v) :=
  fun _ _ _ H _ I h => ld_blt I hg hm hv ⟨v, H, I, r, h⟩ hn hd

variable {a b : Expr} {ta tb : TE} {pos : Pos}
def tB (t : TE) : TT := fun σ H Q => t σ H fun x H1 => ∃ c, x = .bl c /\ Q c H1
theorem pt_val {e : Expr} {t : TE} (h : PE X e t) (he : ∀ whole, isTrue e X.env whole = (do let v <- whole; standAt e.pos; holding [v] (truthy v)) := by intro _; rfl) : PT X e (tB t) := by
  intro pins s σ H Q I hw
  refine isTrue_plain (thn (h pins s σ H _ I hw) fun v s1 ⟨x, H1, I1, r1, q1⟩ => ?_) (he _)
  obtain ⟨d, rfl, q⟩ := q1
  cases r1
  exact wpAny_truthy_bool ⟨H1, I1, q⟩

variable {tA tB' : TT} {rest : List Expr}
def tAnd (t u : TT) : TT := fun σ H Q => t σ H fun c H1 => if c = true then u σ H1 Q else Q false H1
def tOr (t u : TT) : TT := fun σ H Q => t σ H fun c H1 => if c = true then Q true H1 else u σ H1 Q
def tNot (t : TT) : TT := fun σ H Q => t σ H fun c H1 => Q (!c) H1
theorem pw_and1 (ha : PT X a tA) : PW X (.BoolOp .And [a] pos) tA := by
  intro wh pins s σ H Q I h
  refine isTrue_and (thn (ha pins s σ H Q I h) fun c s1 e => ?_)
  cases c with
  | true => exact isTrue_and_nil e
  | false => exact e
theorem pw_or1 (ha : PT X a tA) : PW X (.BoolOp .Or [a] pos) tA := by
  intro wh pins s σ H Q I h
  refine isTrue_or (thn (ha pins s σ H Q I h) fun c s1 e => ?_)
  cases c with
  | false => exact isTrue_or_nil e
  | true => exact e
theorem pw_and (ha : PT X a tA) (hb : PW X (.BoolOp .And (b :: rest) pos) tB') : PW X (.BoolOp .And (a :: b :: rest) pos) (tAnd tA tB') := by
  intro wh pins s σ H Q I h
  refine isTrue_and (thn (ha pins s σ H _ I h) fun c s1 ⟨H1, I1, q1⟩ => ?_)
  cases c with
  | true => exact hb wh pins s1 σ H1 Q I1 q1
  | false => exact ⟨H1, I1, q1⟩
theorem pw_or (ha : PT X a tA) (hb : PW X (.BoolOp .Or (b :: rest) pos) tB') : PW X (.BoolOp .Or (a :: b :: rest) pos) (tOr tA tB') := by
  intro wh pins s σ H Q I h
  refine isTrue_or (thn (ha pins s σ H _ I h) fun c s1 ⟨H1, I1, q1⟩ => ?_)
  cases c with
  | true => exact ⟨H1, I1, q1⟩
  | false => exact hb wh pins s1 σ H1 Q I1 q1
theorem pt_not (ha : PT X a tA) : PT X (.UnaryOp .Not a pos) (tNot tA) := by
  intro pins s σ H Q I h
  exact isTrue_not (ha pins s σ H (fun c H1 => Q (!c) H1) I h)
def tAndV (ta tb : TE) : TE := fun σ H Q => ta σ H fun x H1 => ∃ c, x = .bl c /\ if c = true then tb σ H1 Q else Q (.bl false) H1
def tNotV (ta : TE) : TE := fun σ H Q => ta σ H fun x H1 => ∃ c, x = .bl c /\ Q (.bl (!c)) H1
theorem pe_one {op} {t : TE} (h : PE X a t) : PE X (.BoolOp op [a] pos) t := fun pins s σ H Q I hw => BoolOp_one (h pins s σ H Q I hw)
theorem pe_and (ha : PE X a ta) (hb : PE X (.BoolOp .And (b :: rest) pos) tb) : PE X (.BoolOp .And (a :: b :: rest) pos) (tAndV ta tb) := by
  intro pins s σ H Q I h
  refine BoolOp_and (thn (ha pins s σ H _ I h) fun v s1 ⟨x, H1, I1, r1, q1⟩ => ?_)
  obtain ⟨c, rfl, q1⟩ := q1
  cases r1
  refine wpAny_truthy_bool ?_
  cases c with
  | true => exact hb pins s1 σ H1 Q I1 q1
  | false => exact ⟨.bl false, H1, I1, rfl, q1⟩
theorem pe_not (ha : PE X a ta) : PE X (.UnaryOp .Not a pos) (tNotV ta) := by
  intro pins s σ H Q I h
  refine UnaryOp_ (thn (ha pins s σ H _ I h) fun v s1 ⟨x, H1, I1, r1, q1⟩ => ?_)
  obtain ⟨c, rfl, q1⟩ := q1
  cases r1
  exact not_of (wpAny_truthy_bool ⟨.bl (!c), H1, I1, rfl, q1⟩)
def tIf (t : TT) (ta tb : TE) : TE := fun σ H Q => t σ H fun c H1 => if c = true then ta σ H1 Q else tb σ H1 Q
theorem pe_ifExp {c : Expr} (hc : PT X c tA) (ha : PE X a ta) (hb : PE X b tb) : PE X (.IfExp c a b pos) (tIf tA ta tb) := by
  intro pins s σ H Q I h
  refine wpAny_IfExp (thn (hc pins s σ H _ I h) fun d s1 ⟨H1, I1, q1⟩ => ?_)
  cases d with
  | true => exact ha pins s1 σ H1 Q I1 q1
  | false => exact hb pins s1 σ H1 Q I1 q1
end
end L2

namespace L2
open PySem PySem.Spec PyProof.Rows

def SqL (K : PySem.W.Frag) (H : Hp) (a : Addr) (xs : List V) : Prop :=
  Rd H a (.lst xs) \/
    ∃ (o : Obj) (its : Array Value) (n : Nat), K.lookup a = some o /\ o.cls = .type "list" /\ o.dict = none /\ o.data = .seq its n /\ its.size <= sizeLine /\ Vals xs its.toList
def SqT (K : PySem.W.Frag) (H : Hp) (a : Addr) (xs : List V) : Prop :=
  Rd H a (.tup xs) \/
    ∃ (o : Obj) (its : Array Value) (n : Nat), K.lookup a = some o /\ o.cls = .type "tuple" /\ o.data = .seq its n /\ its.size <= sizeLine /\ Vals xs its.toList
def absV : Value -> Option V
  | .none => some .non
  | .bool b => some (.bl b)
  | .int i _ => some (.int i)
  | .str x _ => some (.str x)
  | .bytes b _ => some (.byt b)
  | .float b _ => some (.flt b)
  | .ref a => some (.ref a)
  | .type n => some (.ty n)
  | _ => none
theorem RelV.abs {x : V} {u : Value} (r : RelV x u) : absV u = some x := by
  cases x with
  | non => cases r; rfl
  | bl _ => cases r; rfl
  | int _ => obtain ⟨t, rfl⟩ := r; rfl
  | str _ => obtain ⟨t, rfl⟩ := r; rfl
  | byt _ => obtain ⟨t, rfl⟩ := r; rfl
  | flt _ => obtain ⟨t, rfl⟩ := r; rfl
  | ref _ => cases r; rfl
  | ty _ => cases r; rfl
theorem RelV.inj {x y : V} {u : Value} (r : RelV x u) (q : RelV y u) : x = y := Option.some.inj (r.abs.symm.trans q.abs)
theorem Vals.inj : ∀ {xs ys : List V} {us : List Value}, Vals xs us -> Vals ys us -> xs = ys
  | _, _, _, .nil, .nil => rfl
  | _, _, _, .cons r t, .cons r' t' => by rw [r.inj r', Vals.inj t t']
section
variable {X : Cx} {pins : List (Addr × Obj)} {σ : St} {H : Hp} {s : Shared} {a : Addr} {xs ys : List V}
theorem SqL.of {K : PySem.W.Frag} (h : H a = some (.lst xs)) : SqL K H a xs := .inl (.inl h)
theorem SqT.of {K : PySem.W.Frag} (h : H a = some (.tup xs)) : SqT K H a xs := .inl (.inl h)
theorem Inv.list (I : Inv X pins σ H s) (h : SqL X.K H a xs) : ∃ its : List Value, Vals xs its /\ PlainL s.heap a its.toArray /\ xs.length <= sizeLine := by
  rcases h with h | ⟨o, its, n, hk, hc, hd, hs, hz, r⟩
  . obtain ⟨z, its, n, r, e⟩ := h.ok I.hok
    exact ⟨its, r, ⟨_, n, e, rfl, rfl, rfl⟩, z⟩
  . refine ⟨its.toList, r, ⟨o, n, I.kIn a o hk, hc, hd, by simpa using hs⟩, ?_⟩
    have e := r.length
    simp only [Array.length_toList] at e
    omega
theorem Inv.tuple (I : Inv X pins σ H s) (h : SqT X.K H a xs) : ∃ its : List Value, Vals xs its /\ IsTup s.heap a its.toArray /\ xs.length <= sizeLine := by
  rcases h with h | ⟨o, its, n, hk, hc, hs, hz, r⟩
  . obtain ⟨z, its, r, p⟩ := h.ok I.hok
    exact ⟨its, r, p, z⟩
  . refine ⟨its.toList, r, ⟨o, I.kIn a o hk, hc, n, by simpa using hs⟩, ?_⟩
    have e := r.length
    simp only [Array.length_toList] at e
    omega
theorem Inv.list_inj (I : Inv X pins σ H s) (h : SqL X.K H a xs) (h' : SqL X.K H a ys) : xs = ys := by
  obtain ⟨its, r, ⟨o, n, e, _, _, d⟩, _⟩ := I.list h
  obtain ⟨its', r', ⟨o', n', e', _, _, d'⟩, _⟩ := I.list h'
  rw [e] at e'; cases e'
  rw [d] at d'
  injection d' with d1 _
  have : its = its' := by simpa using congrArg Array.toList d1
  subst this
  exact r.inj r'
theorem Inv.tuple_inj (I : Inv X pins σ H s) (h : SqT X.K H a xs) (h' : SqT X.K H a ys) : xs = ys := by
  obtain ⟨its, r, ⟨o, e, _, n, d⟩, _⟩ := I.tuple h
  obtain ⟨its', r', ⟨o', e', _, n', d'⟩, _⟩ := I.tuple h'
  rw [e] at e'; cases e'
  rw [d] at d'
  injection d' with d1 _
  have : its = its' := by simpa using congrArg Array.toList d1
  subst this
  exact r.inj r'
end

abbrev Cx.wish (X : Cx) (E : Value -> Shared -> Prop) : Cx := { X with xe := E }
abbrev Cx.nox (X : Cx) : Cx := X.wish fun _ _ => False
theorem Cx.Ok.wish {X : Cx} (ok : X.Ok) (E : Value -> Shared -> Prop) : (X.wish E).Ok :=
  ⟨ok.mod, ok.kind, ok.glob, ok.blt, ok.above, ok.inj, ok.has, ok.cab, ok.hd, ok.frames, ok.stk, ok.exf, ok.bs, ok.bsz, ok.noex, ok.exfs, ok.funs, ok.frf⟩
theorem Cx.Ok.unwish {X : Cx} {E : Value -> Shared -> Prop} (ok : (X.wish E).Ok) : X.Ok :=
  ⟨ok.mod, ok.kind, ok.glob, ok.blt, ok.above, ok.inj, ok.has, ok.cab, ok.hd, ok.frames, ok.stk, ok.exf, ok.bs, ok.bsz, ok.noex, ok.exfs, ok.funs, ok.frf⟩
section
variable {X : Cx} {pins : List (Addr × Obj)} {σ : St} {H : Hp} {s : Shared} {E : Value -> Shared -> Prop}
theorem Inv.wish (I : Inv X pins σ H s) (E : Value -> Shared -> Prop) : Inv (X.wish E) pins σ H s := ⟨I.ok.wish E, I.os, I.bare, I.base, I.loc, I.cell, I.free, I.freeC, I.pin, I.hok, I.len⟩
theorem Inv.unwish (I : Inv (X.wish E) pins σ H s) : Inv X pins σ H s := ⟨I.ok.unwish, I.os, I.bare, I.base, I.loc, I.cell, I.free, I.freeC, I.pin, I.hok, I.len⟩
theorem SP.unwish {D : Ends} {f : Flow} {s' : Shared} (h : SP (X.wish E) pins D f s') : SP X pins D f s' := by
  cases f with
  | next => obtain ⟨σ', H', I, q⟩ := h; exact ⟨σ', H', I.unwish, q⟩
  | brk => obtain ⟨σ', H', I, q⟩ := h; exact ⟨σ', H', I.unwish, q⟩
  | cont => obtain ⟨σ', H', I, q⟩ := h; exact ⟨σ', H', I.unwish, q⟩
  | ret u => obtain ⟨v, σ', H', I, r, q⟩ := h; exact ⟨v, σ', H', I.unwish, r, q⟩
theorem PSs.nox {st : List Stmt} {t : TS} (h : PSs X.nox st t) : PSs X st t := fun pins s σ H D I hw =>
  wpAny_mono (h pins s σ H D (I.wish _) hw) (fun _ _ q => q.unwish) fun _ _ z => False.elim z
end

section
variable {X : Cx} {st : Stmt} {rest : List Stmt} {t u : TS} {e : Expr} {te : TE} {pos : Pos}
def tNext : TS := fun D σ H => D.nx σ H
def tSeq (t u : TS) : TS := fun D σ H => t { D with nx := u D } σ H
theorem pss_nil : PSs X [] tNext := fun _ _ σ H _ I h => wpAny_execs_nil ⟨σ, H, I, h⟩
theorem pss_cons (h1 : PS X st t) (h2 : PSs X rest u) : PSs X (st :: rest) (tSeq t u) := by
  intro pins s σ H D I h
  refine wpAny_execs_cons (thn (h1 pins s σ H { D with nx := u D } I h) fun f s1 q => ?_)
  cases f with
  | next =>
    obtain ⟨σ', H', I', q⟩ := q
    exact h2 pins s1 σ' H' D I' q
  | ret v => exact q
  | brk => exact q
  | cont => exact q
theorem pss_one (h1 : PS X st t) : PSs X [st] t := by
  intro pins s σ H D I h
  refine wpAny_execs_cons (thn (h1 pins s σ H D I h) fun f s1 q => ?_)
  cases f with
  | next => exact wpAny_execs_nil q
  | ret v => exact q
  | brk => exact q
  | cont => exact q
theorem Inv.quiet {pins : List (Addr × Obj)} {σ : St} {H : Hp} {s : Shared} (I : Inv X pins σ H s) : interactive X.env = false := by simp [interactive, I.ok.kind]
def tDrop (te : TE) : TS := fun D σ H => te σ H fun _ H1 => D.nx σ H1
theorem ps_expr (he : PE X e te) (hs : swapsWith e none pos.line X.env = pure false := by rfl) : PS X (.Expr e pos) (tDrop te) := by
  intro pins s σ H D I h
  exact wpAny_Expr_any (thn (he pins s σ H _ I h) fun v s1 ⟨x, H1, I1, r1, q1⟩ => ⟨σ, H1, I1, q1⟩) I.quiet hs
def tRet (te : TE) : TS := fun D σ H => te σ H D.rt
theorem ps_ret (he : PE X e te) : PS X (.Return (some e) pos) (tRet te) := by
  intro pins s σ H D I h
  exact wpAny_Return_some (thn (he pins s σ H _ I h) fun v s1 ⟨x, H1, I1, r1, q1⟩ => ⟨x, σ, H1, I1, r1, q1⟩)
def tIfS (c : TT) (t u : TS) : TS := fun D σ H => c σ H fun b H1 => if b = true then t D σ H1 else u D σ H1
theorem ps_if {c : Expr} {a b : List Stmt} {tc : TT} (hc : PT X c tc) (ha : PSs X a t) (hb : PSs X b u) : PS X (.If c a b pos) (tIfS tc t u) := by
  intro pins s σ H D I h
  refine wpAny_If (thn (hc pins s σ H _ I h) fun d s1 ⟨H1, I1, q1⟩ => ?_)
  cases d with
  | true => exact ha pins s1 σ H1 D I1 q1
  | false => exact hb pins s1 σ H1 D I1 q1
def tNever : TS := fun _ _ _ => False
theorem ps_never : PS X st tNever := fun _ _ _ _ _ _ h => h.elim
end

abbrev TG := V -> St -> Hp -> (St -> Hp -> Prop) -> Prop
abbrev TGs := List V -> St -> Hp -> (St -> Hp -> Prop) -> Prop
def PG (X : Cx) (target : Expr) (t : TG) : Prop :=
  ∀ (pins : List (Addr × Obj)) (s : Shared) (σ : St) (H : Hp) (v : V) (u : Value) (Q : St -> Hp -> Prop), Inv X pins σ H s -> RelV v u -> t v σ H Q ->
    wpAny (model X.prog X.w) X.A (assign target X.env u) (fun _ s' => ∃ σ' H', Inv X pins σ' H' s' /\ Q σ' H') X.xe s
def PGs (X : Cx) (ts : List Expr) (t : TGs) : Prop :=
  ∀ (pins : List (Addr × Obj)) (s : Shared) (σ : St) (H : Hp) (vs : List V) (us : List Value) (Q : St -> Hp -> Prop), Inv X pins σ H s -> Vals vs us -> t vs σ H Q ->
    wpAny (model X.prog X.w) X.A (assignInOrder ((assignEach ts X.env).map (·.2)) us) (fun _ s' => ∃ σ' H', Inv X pins σ' H' s' /\ Q σ' H') X.xe s
abbrev TSet := V -> V -> V -> Hp -> (Hp -> Prop) -> Prop
def PSet (X : Cx) (t : TSet) : Prop :=
  ∀ (pins : List (Addr × Obj)) (s : Shared) (σ : St) (H : Hp) (o i v : V) (ov iv u : Value) (Q : Hp -> Prop), Inv X pins σ H s -> RelV o ov -> RelV i iv -> RelV v u -> t o i v H Q ->
    wpAny (model X.prog X.w) X.A (setItem ov iv u) (fun _ s' => ∃ H', Inv X pins σ H' s' /\ Q H') X.xe s
section
variable {X : Cx} {pos : Pos}
def gName (i : Nat) : TG := fun v σ H Q => Q (σ.set i (some v)) H
theorem pg_name {i : Nat} {x : Str} (hN : X.N.Nodup) (hi : X.N[i]? = some x) (hx : Loc X.env.scope x) (hf : X.fn x = true \/ X.env.scope.names.lookup x = some .local := by first | exact .inl rfl | exact .inr rfl | assumption) : PG X (.Name x pos) (gName i) := by
  intro pins s σ H v u Q I r h
  exact wpAny_assign_Name (store_ok I hN hi hx r (fun s' I' => ⟨_, H, I', h⟩) hf)
def gNil : TGs := fun vs σ H Q => vs = [] /\ Q σ H
def gCons (t : TG) (u : TGs) : TGs := fun vs σ H Q => ∃ v r, vs = v :: r /\ t v σ H fun σ' H' => u r σ' H' Q
theorem pgs_nil : PGs X [] gNil := by
  intro pins s σ H vs us Q I r h
  obtain ⟨e, h⟩ := h
  subst e
  cases r
  exact assignInOrder_nil ⟨σ, H, I, h⟩
theorem pgs_cons {e : Expr} {es : List Expr} {t : TG} {u : TGs} (h1 : PG X e t) (h2 : PGs X es u)
    (hs : (assignEach (e :: es) X.env).map (·.2) = assign e X.env :: (assignEach es X.env).map (·.2) := by rfl) : PGs X (e :: es) (gCons t u) := by
  intro pins s σ H vs us Q I r h
  obtain ⟨v, vr, e1, h⟩ := h
  subst e1
  cases r with
  | cons r rr =>
    rw [hs]
    refine assignInOrder_cons (thn (h1 pins s σ H _ _ _ I r h) fun _ s1 ⟨σ1, H1, I1, q1⟩ => ?_)
    exact h2 pins s1 σ1 H1 _ _ Q I1 rr q1
def gTup (K : PySem.W.Frag) (n : Nat) (t : TGs) : TG := fun v σ H Q => ∃ a xs, v = .ref a /\ SqT K H a xs /\ xs.length = n /\ t xs σ H Q
theorem pg_tup {es : List Expr} {k : Nat} {t : TGs} {n : Nat} (hc : X.calm = true) (h : PGs X es t)
    (hn : (assignEach es X.env).length = n := by rfl) (hst : (assignEach es X.env).findIdx? (·.1) = none := by rfl) : PG X (.Tuple es k pos) (gTup X.K n t) := by
  intro pins s σ H v u Q I r hw
  obtain ⟨a, xs, e1, hq, hl, hw⟩ := hw
  subst e1
  cases r
  obtain ⟨its, rv, ht, hz⟩ := I.tuple hq
  refine assign_Tuple_tuple (I.ok.hd hc) ht (by simp [hn, <- hl, rv.length]) hst fun h' hx => ?_
  have I1 : Inv X pins σ H { s with heap := h' } := I.kept (t' := s.toks) fun b o e => hx b o (Nat.ne_of_lt (Heap.lt_size e)) e
  exact h pins _ σ H xs _ Q I1 (by simpa using rv) hw
def gSub (to ti : TE) (t : TSet) : TG := fun v σ H Q => to σ H fun o H1 => ti σ H1 fun i H2 => t o i v H2 fun H3 => Q σ H3
theorem pg_sub {o i : Expr} {to ti : TE} {t : TSet} (ho : PE X o to) (hi : PE X i ti) (hs : PSet X t)
    (ha : ∀ v, assign (.Subscript o i pos) X.env v = (do
      let ov <- holding [v] (eval o X.env)
      let iv <- holding [v, ov] (eval i X.env)
      standAt pos
      holding [v, ov, iv] (setItem ov iv v)
      release [v, ov, iv] []) := by intro _; rfl) : PG X (.Subscript o i pos) (gSub to ti t) := by
  intro pins s σ H v u Q I r h
  rw [ha]
  refine wpAny_bind (wpAny_holding (thn (ho pins s σ H _ I h) fun ov s1 ⟨x, H1, I1, r1, q1⟩ => ?_))
  refine wpAny_bind (wpAny_holding (thn (hi pins s1 σ H1 _ I1 q1) fun iv s2 ⟨y, H2, I2, r2, q2⟩ => ?_))
  refine wpAny_bind (wpAny_standAt (wpAny_bind (wpAny_holding (thn (hs pins s2 σ H2 x y v ov iv u _ I2 r1 r2 r q2) fun _ s3 ⟨H3, I3, q3⟩ => ?_))))
  exact wpAny_release ⟨σ, H3, I3, q3⟩
def tAsg (te : TE) (g : TG) : TS := fun D σ H => te σ H fun x H1 => g x σ H1 D.nx
theorem ps_asg {tg e : Expr} {te : TE} {g : TG} (he : PE X e te) (hg : PG X tg g) (hs : swapsWithSole [tg] e pos.line X.env = pure false := by rfl) (hw : swappedStores [tg] e X.env = pure none := by rfl)
    (h1 : (assignEach [tg] X.env).map (·.2) = [assign tg X.env] := by rfl) : PS X (.Assign [tg] e pos) (tAsg te g) := by
  intro pins s σ H D I h
  refine wpAny_Assign_stores (thn (he pins s σ H _ I h) fun v s1 ⟨x, H1, I1, r1, q1⟩ => ?_) hs hw
  rw [h1]
  exact thn (hg pins s1 σ H1 x v _ I1 r1 q1) fun _ s2 q => q
theorem ps_set {i : Nat} {x : Str} {e : Expr} {te : TE} {pos' : Pos} (hN : X.N.Nodup) (hi : X.N[i]? = some x) (hx : Loc X.env.scope x) (he : PE X e te) (hs : swapsWith e (some (.Name x pos')) pos.line X.env = pure false := by rfl) (hf : X.fn x = true \/ X.env.scope.names.lookup x = some .local := by first | exact .inl rfl | exact .inr rfl | assumption) :
    PS X (.Assign [.Name x pos'] e pos) (tAsg te (gName i)) := by
  intro pins s σ H D I h
  refine wpAny_Assign_Name (thn (he pins s σ H _ I h) fun v s1 ⟨y, H1, I1, r1, q1⟩ => ?_) hs
  exact store_ok I1 hN hi hx r1 (fun s2 I2 => ⟨_, H1, I2, q1⟩) hf
end

section
variable {X : Cx} {pos : Pos}
end

structure It where
  go : Nat -> Hp -> Prop
  yld : Nat -> Hp -> V -> Hp -> Prop
  stop : Nat -> Hp -> Prop
def FpOk (X : Cx) (pins : List (Addr × Obj)) (H : Hp) (b : Addr) : Prop :=
  H b = none /\ b ≠ X.env.locals /\ b ∉ X.fs /\ (b ∈ X.ex \/ X.s₀.heap.objs.size <= b) /\ (∀ x c, X.env.cells.lookup x = some c -> c ≠ b) /\ ∀ p ∈ X.pn ++ pins, p.1 ≠ b
theorem Inv.fpOk {X : Cx} {pins : List (Addr × Obj)} {σ : St} {H H' : Hp} {s : Shared} {b : Addr} (I : Inv X pins σ H s) (hb : s.heap.objs.size <= b) (hn : H' b = none) : FpOk X pins H' b := by
  refine ⟨hn, Nat.ne_of_gt (Nat.lt_of_lt_of_le I.lt hb), I.nofs hb, .inr (Nat.le_trans I.sz hb), fun x c e z => ?_, fun p hp z => ?_⟩
  . obtain ⟨v, q⟩ := I.cell x c e
    exact absurd (Nat.lt_of_lt_of_le q.lt (by rw [z]; exact hb)) (Nat.lt_irrefl _)
  . exact absurd (Nat.lt_of_lt_of_le (Heap.lt_size (I.pin p hp).1) (by rw [z]; exact hb)) (Nat.lt_irrefl _)
structure Turn (P : Program) (w : World) (K : PySem.W.Frag) (tg : Expr) (J : It) (fp : List Addr) (it : Addr) (tn : Nat -> Heap -> Prop) : Prop where
  mem : it ∈ fp
  obj : ∀ i h, tn i h -> ∀ b ∈ fp, ∃ o, h.get? b = some o /\ ∀ v, o.data ≠ .cell v
  keep : ∀ i h h', tn i h -> (∀ b ∈ fp, ∀ o, h.get? b = some o -> h'.get? b = some o) -> tn i h'
  item : ∀ (X : Cx), X.prog = P -> X.w = w -> X.K = K -> X.calm = true -> ∀ (i : Nat) (pins : List (Addr × Obj)) (s : Shared) (σ : St) (H : Hp) (E : Value -> Shared -> Prop), Inv X pins σ H s -> (∀ b ∈ fp, FpOk X pins H b) -> tn i s.heap -> J.go i H ->
    wpAny (model P w) X.A (pyNext (.ref it)) (fun r s1 => ∃ u, r = some u /\
      wpAny (model P w) X.A (letOwnedTupleGo tg (.ref it) u) (fun _ s2 => ∃ x H', Inv X pins σ H' s2 /\ RelV x u /\ J.yld i H x H' /\ tn (i + 1) s2.heap /\ ∀ b ∈ fp, H' b = none) E s1) E s
  done : ∀ (X : Cx), X.prog = P -> X.w = w -> X.K = K -> X.calm = true -> ∀ (i : Nat) (pins : List (Addr × Obj)) (s : Shared) (σ : St) (H : Hp) (E : Value -> Shared -> Prop), Inv X pins σ H s -> (∀ b ∈ fp, FpOk X pins H b) -> tn i s.heap -> J.stop i H ->
    wpAny (model P w) X.A (pyNext (.ref it)) (fun r s1 => r = none /\ Inv X pins σ H s1) E s
  self : ∀ (A : Around) (i : Nat) (s : Shared) (Q : Value -> Shared -> Prop) (E : Value -> Shared -> Prop), tn i s.heap -> Q (.ref it) s -> wpAny (model P w) A (pyIter (.ref it)) Q E s
abbrev TI := St -> Hp -> (It -> Hp -> Prop) -> Prop
def PIE (X : Cx) (pins : List (Addr × Obj)) (σ : St) (tg : Expr) (R : It -> Hp -> Prop) (itv : Value) (s2 : Shared) : Prop :=
  ∃ (it : Addr) (fp : List Addr) (tn : Nat -> Heap -> Prop) (J : It) (H' : Hp), itv = .ref it /\ Inv X pins σ H' s2 /\ Turn X.prog X.w X.K tg J fp it tn /\ tn 0 s2.heap /\ (∀ b ∈ fp, FpOk X pins H' b) /\ R J H'
def PI (X : Cx) (tg iter : Expr) (wi : TI) : Prop :=
  ∀ (pins : List (Addr × Obj)) (s : Shared) (σ : St) (H : Hp) (R : It -> Hp -> Prop), Inv X pins σ H s -> wi σ H R ->
    wpAny (model X.prog X.w) X.A (eval iter X.env) (fun v s1 => wpAny (model X.prog X.w) X.A (pyIter v) (PIE X pins σ tg R) X.xe s1) X.xe s

theorem go_of {M : Model} {A : Around} {E : Value -> Shared -> Prop} {s : Shared} {tg : Expr} {it : Addr} {u : Value} {o : Obj} {n : String} {vs : Array Value} {Q : Unit -> Shared -> Prop} (ho : s.heap.get? it = some o) (hc : o.cls = .type n) (hd : o.data = .fields vs)
    (hn : ["enumerate", "zip", "dict_itemiterator", "dict_reverseitemiterator", "odict_iterator", "itertools.zip_longest", "itertools.pairwise"].contains n = false) (hQ : Q () s) : wpAny M A (letOwnedTupleGo tg (.ref it) u) Q E s := by
  unfold letOwnedTupleGo
  cases tg <;> first
    | exact wpAny_pure hQ
    | (cases u <;> first
        | exact wpAny_pure hQ
        | (refine wpAny_bind (wpAny_load ho ?_)
           rw [hc, hd]
           show wpAny M A (if (["enumerate", "zip", "dict_itemiterator", "dict_reverseitemiterator", "odict_iterator", "itertools.zip_longest", "itertools.pairwise"].contains n && vs[0]? == some (rawInt _)) = true then _ else _) Q E s
           rw [if_neg (by intro h; rw [hn, Bool.false_and] at h; cases h)]
           exact wpAny_pure hQ))

def Itl (K : PySem.W.Frag) (a : Addr) : It :=
  ⟨fun i H => ∃ xs x, SqL K H a xs /\ xs[i]? = some x, fun i H x H' => H' = H /\ ∀ xs, SqL K H a xs -> xs[i]? = some x, fun i H => ∃ xs, SqL K H a xs /\ xs.length <= i⟩
def Itt (K : PySem.W.Frag) (a : Addr) : It :=
  ⟨fun i H => ∃ xs x, SqT K H a xs /\ xs[i]? = some x, fun i H x H' => H' = H /\ ∀ xs, SqT K H a xs -> xs[i]? = some x, fun i H => ∃ xs, SqT K H a xs /\ xs.length <= i⟩
def Itr (lo : Int) (n : Nat) : It := ⟨fun i _ => i < n, fun i H x H' => H' = H /\ x = .int (lo + i), fun i _ => n <= i⟩
theorem turn_list {P : Program} {w : World} {K : PySem.W.Frag} {tg : Expr} (a it : Addr) : Turn P w K tg (Itl K a) [it] it (fun i h => h.IsListIter it a i) where
  mem := by simp
  obj := fun i h st b hb => by
    have e : b = it := by simpa using hb
    subst e
    obtain ⟨o, e, c, d⟩ := st
    exact ⟨o, e, fun v z => by rw [d] at z; cases z⟩
  keep := fun i h h' st k => st.at fun o e => k it (by simp) o e
  item := by
    intro X hP hw hK hc i pins s σ H E I hf st hg
    subst hP hw hK
    obtain ⟨xs, x, hq, hx⟩ := hg
    obtain ⟨its, rv, p, hz⟩ := I.list hq
    obtain ⟨u, hu, ru⟩ := rv.get hx
    obtain ⟨f0, f1, f2, f3, f4, f5⟩ := hf it (by simp)
    refine wpAny_pyNext_list_item st p.isList (x := u) (by simpa using hu) fun h' st' sb => ?_
    have I1 : Inv X pins σ H { s with heap := h' } := I.turned (t' := s.toks) (fun b o hb e => (sb.2 b hb).trans e) f0 f1 f3 f4 f5
    obtain ⟨o, e, c, d⟩ := id st'
    exact ⟨u, rfl, go_of (s := { s with heap := h' }) e c d (by decide) ⟨x, H, I1, ru, ⟨rfl, fun ys hy => by rw [I.list_inj hy hq]; exact hx⟩, st', fun b hb => (hf b hb).1⟩⟩
  done := by
    intro X hP hw hK hc i pins s σ H E I hf st hg
    subst hP hw hK
    obtain ⟨xs, hq, hx⟩ := hg
    obtain ⟨its, rv, p, hz⟩ := I.list hq
    obtain ⟨f0, f1, f2, f3, f4, f5⟩ := hf it (by simp)
    have hl := rv.length
    exact wpAny_pyNext_list_end (I.ok.hd hc) st p.isList (by simp; omega) fun h' eb => ⟨rfl, I.turned (t' := s.toks) (fun b o hb e => eb b o hb e) f0 f1 f3 f4 f5⟩
  self := fun _ _ _ _ _ st h => wpAny_pyIter_listiter st h
theorem turn_tuple {P : Program} {w : World} {K : PySem.W.Frag} {tg : Expr} (a it : Addr) : Turn P w K tg (Itt K a) [it] it (fun i h => h.IsTupleIter it a i) where
  mem := by simp
  obj := fun i h st b hb => by
    have e : b = it := by simpa using hb
    subst e
    obtain ⟨o, e, c, d⟩ := st
    exact ⟨o, e, fun v z => by rw [d] at z; cases z⟩
  keep := fun i h h' st k => st.at fun o e => k it (by simp) o e
  item := by
    intro X hP hw hK hc i pins s σ H E I hf st hg
    subst hP hw hK
    obtain ⟨xs, x, hq, hx⟩ := hg
    obtain ⟨its, rv, p, hz⟩ := I.tuple hq
    obtain ⟨u, hu, ru⟩ := rv.get hx
    obtain ⟨f0, f1, f2, f3, f4, f5⟩ := hf it (by simp)
    refine wpAny_pyNext_tuple_item st (show s.heap.IsTuple a its.toArray from p) (x := u) (by simpa using hu) fun h' st' sb => ?_
    have I1 : Inv X pins σ H { s with heap := h' } := I.turned (t' := s.toks) (fun b o hb e => (sb.2 b hb).trans e) f0 f1 f3 f4 f5
    obtain ⟨o, e, c, d⟩ := id st'
    exact ⟨u, rfl, go_of (s := { s with heap := h' }) e c d (by decide) ⟨x, H, I1, ru, ⟨rfl, fun ys hy => by rw [I.tuple_inj hy hq]; exact hx⟩, st', fun b hb => (hf b hb).1⟩⟩
  done := by
    intro X hP hw hK hc i pins s σ H E I hf st hg
    subst hP hw hK
    obtain ⟨xs, hq, hx⟩ := hg
    obtain ⟨its, rv, p, hz⟩ := I.tuple hq
    obtain ⟨f0, f1, f2, f3, f4, f5⟩ := hf it (by simp)
    have hl := rv.length
    exact wpAny_pyNext_tuple_end (I.ok.hd hc) st (show s.heap.IsTuple a its.toArray from p) (by simp; omega) fun h' eb => ⟨rfl, I.turned (t' := s.toks) (fun b o hb e => eb b o hb e) f0 f1 f3 f4 f5⟩
  self := fun _ _ _ _ _ st h => wpAny_pyIter_tupleiter st h
theorem turn_range {P : Program} {w : World} {K : PySem.W.Frag} {tg : Expr} (it : Addr) (lo : Int) (n : Nat) : Turn P w K tg (Itr lo n) [it] it (fun i h => IsRangeIter h it (lo + (i : Nat) * 1) ((n : Int) - (i : Nat)) 1) where
  mem := by simp
  obj := fun i h st b hb => by
    have e : b = it := by simpa using hb
    subst e
    exact ⟨_, st, fun v z => by
      have z' : Data.fields _ = Data.cell v := z
      cases z'⟩
  keep := fun i h h' st k => k it (by simp) _ st
  item := by
    intro X hP hw hK hc i pins s σ H E I hf st hg
    subst hP hw hK
    obtain ⟨f0, f1, f2, f3, f4, f5⟩ := hf it (by simp)
    have W := Walks.range (prog := X.prog) (w := X.w) (I.ok.hd hc) it lo 1 n
    refine W.item i s _ _ hg st fun v h' tk hv st' kk => ?_
    obtain ⟨t, rfl⟩ := hv
    have I1 : Inv X pins σ H { s with heap := h', toks := tk } := I.turned (fun b o hb e => kk b o (by simpa using hb) e) f0 f1 f3 f4 f5
    refine ⟨_, rfl, go_of (s := { s with heap := h', toks := tk }) (n := "range_iterator") st' rfl rfl (by decide) ⟨.int (lo + i), H, I1, ⟨t, ?_⟩, ⟨rfl, rfl⟩, st', fun b hb => (hf b hb).1⟩⟩
    rw [Int.mul_one]
  done := by
    intro X hP hw hK hc i pins s σ H E I hf st hg
    subst hP hw hK
    obtain ⟨f0, f1, f2, f3, f4, f5⟩ := hf it (by simp)
    exact wpAny_pyNext_range_end (I.ok.hd hc) st (by have : n <= i := hg; omega) fun h' eb => ⟨rfl, I.turned (t' := s.toks) (fun b o hb e => eb b o hb e) f0 f1 f3 f4 f5⟩
  self := fun _ _ _ _ _ st h => wpAny_pyIter_rangeiter st h
end L2

namespace L2
open PySem PySem.Spec PyProof.Rows
section
variable {X : Cx} {tg : Expr}
theorem range_it {pins : List (Addr × Obj)} {σ : St} {H : Hp} {s : Shared} {R : It -> Hp -> Prop} {E : Value -> Shared -> Prop} {lo hi : Int} {t u v : Tok} {tk : Nat} (I : Inv X pins σ H s) (h1 : -(2 ^ 62) <= lo) (h2 : lo < 2 ^ 62) (h3 : -(2 ^ 62) <= hi) (h4 : hi < 2 ^ 62)
    (q : R (Itr lo (hi - lo).toNat) H) : wpAny (model X.prog X.w) X.A (pyIter (.ref s.heap.objs.size)) (PIE X pins σ tg R) E { s with heap := s.heap.push { cls := .type "range", data := .fields #[.int lo t, .int hi u, .int 1 v] }, toks := tk } := by
  refine wpAny_pyIter_range (IsRange.new ..) (small_one h1 h2 h3 h4) ?_
  have I1 : Inv X pins σ H { s with heap := s.heap.push { cls := .type "range", data := .fields #[.int lo t, .int hi u, .int 1 v] }, toks := tk } := I.kept fun b o e => Heap.get?_push_of_some _ e
  refine ⟨(s.heap.push { cls := .type "range", data := .fields #[.int lo t, .int hi u, .int 1 v] }).objs.size, [(s.heap.push { cls := .type "range", data := .fields #[.int lo t, .int hi u, .int 1 v] }).objs.size], _, _, H, rfl,
    I1.kept (t' := tk) fun b o e => Heap.get?_push_of_some _ e, turn_range _ lo (hi - lo).toNat, ?_, fun b hb => ?_, q⟩
  . have e1 : lo + ((0 : Nat) : Int) * 1 = lo := by simp
    have e2 : (((hi - lo).toNat : Nat) : Int) - ((0 : Nat) : Int) = Builtin.Range.rangeSize lo hi 1 := by rw [rangeSize_one]; split <;> omega
    show IsRangeIter _ _ (lo + ((0 : Nat) : Int) * 1) ((((hi - lo).toNat : Nat) : Int) - ((0 : Nat) : Int)) 1
    rw [e1, e2]
    exact Heap.get?_push_size _ rfl
  . have e : b = (s.heap.push { cls := .type "range", data := .fields #[.int lo t, .int hi u, .int 1 v] }).objs.size := by simpa using hb
    subst e
    exact I1.fpOk (Nat.le_refl _) (I1.hok.fresh (Nat.le_refl _))
def iRng1 (ta : TA) : TI := fun σ H R => ta σ H fun vs H1 => ∃ j : Int, vs = [.int j] /\ -(2 ^ 62) <= j /\ j < 2 ^ 62 /\ R (Itr 0 j.toNat) H1
theorem pi_range1 {a : Expr} {ta : TA} {p pos : Pos} (hg : Gl X "range") (hm : X.mg "range" = none) (ha : PA X [a] ta) (hs : starEach [a] X.env = [(false, eval a X.env)] := by rfl) : PI X tg (.Call (.Name "range" p) [a] [] pos) (iRng1 ta) := by
  intro pins s σ H R I h
  refine Call_ (ld_blt I hg hm boot_range (PyProof.Rows.callWith_type1 (thn (ha pos pins s σ H _ I h) fun us s1 ⟨vs, H1, I1, r1, q1⟩ => ?_) hs rfl))
  obtain ⟨j, e, q1, q2, q⟩ := q1
  subst e
  cases r1 with
  | cons r rr =>
    cases rr
    obtain ⟨t, rfl⟩ := r
    exact call_range_1 (range_it I1 (by omega) (by omega) q1 q2 (by simpa using q))
def tFor (wi : TI) (g : TG) (tb : TS) : TS := fun D σ H => wi σ H fun J H1 => ∃ W : Nat -> Nat -> St -> Hp -> Prop, (∃ m, W 0 m σ H1) /\ ∀ i m σ H, W i m σ H ->
  (J.stop i H /\ D.nx σ H) \/ (J.go i H /\ ∃ N : St -> Hp -> Prop, (∀ σ' H', N σ' H' -> ∃ m', m' < m /\ W (i + 1) m' σ' H') /\ ∀ x H', J.yld i H x H' -> g x σ H' fun σ2 H2 => tb { D with nx := N, ct := N, bk := D.nx } σ2 H2)
def pinsAt (fp : List Addr) (h : Heap) : List (Addr × Obj) := fp.filterMap fun b => (h.get? b).map fun o => (b, o)
theorem mem_pinsAt {fp : List Addr} {h : Heap} {b : Addr} {o : Obj} (hb : b ∈ fp) (e : h.get? b = some o) : (b, o) ∈ pinsAt fp h := List.mem_filterMap.mpr ⟨b, hb, by rw [e]; rfl⟩
theorem of_pinsAt {fp : List Addr} {h : Heap} {p : Addr × Obj} (hp : p ∈ pinsAt fp h) : p.1 ∈ fp /\ h.get? p.1 = some p.2 := by
  obtain ⟨b, hb, e⟩ := List.mem_filterMap.mp hp
  cases q : h.get? b with
  | none => rw [q] at e; cases e
  | some o =>
    rw [q] at e
    have e' : (b, o) = p := Option.some.inj e
    subst e'
    exact ⟨hb, q⟩
theorem Inv.pinned {pins : List (Addr × Obj)} {σ : St} {H : Hp} {s : Shared} {fp : List Addr} (I : Inv X pins σ H s) (hf : ∀ b ∈ fp, FpOk X pins H b) (ho : ∀ b ∈ fp, ∃ o, s.heap.get? b = some o /\ ∀ v, o.data ≠ .cell v) : Inv X (pins ++ pinsAt fp s.heap) σ H s :=
  I.pins_of fun p hp => (List.mem_append.mp hp).elim (fun z => I.pin p (List.mem_append_right _ z)) fun z => by
    obtain ⟨hb, e⟩ := of_pinsAt z
    obtain ⟨f0, f1, f2, _⟩ := hf p.1 hb
    obtain ⟨o, e', d⟩ := ho p.1 hb
    rw [e] at e'; cases e'
    exact ⟨e, f0, f1, f2, d⟩
theorem Inv.unpinned {pins pl : List (Addr × Obj)} {σ : St} {H : Hp} {s : Shared} (I : Inv X (pins ++ pl) σ H s) : Inv X pins σ H s := I.pins_of fun p hp => I.pin p (List.mem_append_right _ (List.mem_append_left _ hp))
theorem ps_for {iter : Expr} {body : List Stmt} {wi : TI} {g : TG} {tb : TS} {pos : Pos} (hp : PassesOwn (model X.prog X.w) X.A X.env X.xe) (hc : X.calm = true) (hi : PI X tg iter wi) (hg : PG X tg g) (hb : PSs X body tb)
    (hs : ∀ x, foldedSetIterable iter X.env x = pure x := by intro _; rfl) : PS X (.For tg iter body [] pos) (tFor wi g tb) := by
  intro pins s σ H D I h
  refine wpAny_For (thn (hi pins s σ H _ I h) fun v s1 h1 => thn h1 fun itv s2 h2 => ?_) hs
  obtain ⟨it, fp, tn, J, H2, e, I2, T, st2, f2, W, ⟨m0, w0⟩, turn⟩ := h2
  subst e
  -- what stays true of the iterator's objects through the loop
  have stat : ∀ {H' : Hp}, (∀ b ∈ fp, H' b = none) -> ∀ b ∈ fp, FpOk X pins H' b := fun hn b hb => ⟨hn b hb, (f2 b hb).2⟩
  refine codeAny_forLoop_any (fun n s' => ∃ i σ' H', Inv X pins σ' H' s' /\ tn i s'.heap /\ (∀ b ∈ fp, H' b = none) /\ W i n σ' H') ?_ m0 ⟨0, σ, H2, I2, st2, fun b hb => (f2 b hb).1, w0⟩
  rintro n s3 ⟨i, σ3, H3, I3, st3, fr3, w3⟩
  rcases turn i n σ3 H3 w3 with ⟨stop, qn⟩ | ⟨go, N, hN, step⟩
  . refine wpAny_passesOwn hp (thn (T.done X rfl rfl rfl hc i pins s3 σ3 H3 X.xe I3 (stat fr3) st3 stop) fun r s4 ⟨hr, I4⟩ => ?_)
    subst hr
    exact wpAny_execs_nil ⟨σ3, H3, I4, qn⟩
  . refine wpAny_passesOwn hp (thn (T.item X rfl rfl rfl hc i pins s3 σ3 H3 X.xe I3 (stat fr3) st3 go) fun r s4 ⟨u, hr, h4⟩ => ?_)
    subst hr
    refine wpAny_passesOwn hp (thn h4 fun _ s5 ⟨x, H5, I5, r5, y5, st5, fr5⟩ => ?_)
    have I5' := I5.pinned (stat fr5) (T.obj _ _ st5)
    refine wpAny_passesOwn hp (thn (hg _ s5 σ3 H5 x u _ I5' r5 (step x H5 y5)) fun _ s6 ⟨σ6, H6, I6, q6⟩ => ?_)
    refine wpAny_passesOwn hp (thn (hb _ s6 σ6 H6 _ I6 q6) fun f s7 q7 => ?_)
    have again : ∀ {σ7 : St} {H7 : Hp}, Inv X (pins ++ pinsAt fp s5.heap) σ7 H7 s7 -> N σ7 H7 -> ∃ m, m < n /\ ∃ i σ' H', Inv X pins σ' H' s7 /\ tn i s7.heap /\ (∀ b ∈ fp, H' b = none) /\ W i m σ' H' := fun {σ7 H7} I7 n7 => by
      obtain ⟨m', hm, w7⟩ := hN σ7 H7 n7
      refine ⟨m', hm, i + 1, σ7, H7, I7.unpinned, T.keep _ _ _ st5 fun b hb o e => (I7.pin (b, o) (List.mem_append_right _ (List.mem_append_right _ (mem_pinsAt hb e)))).1, fun b hb => ?_, w7⟩
      obtain ⟨o, e, d⟩ := T.obj _ _ st5 b hb
      exact (I7.pin (b, o) (List.mem_append_right _ (List.mem_append_right _ (mem_pinsAt hb e)))).2.1
    cases f with
    | next => obtain ⟨σ7, H7, I7, n7⟩ := q7; exact again I7 n7
    | cont => obtain ⟨σ7, H7, I7, n7⟩ := q7; exact again I7 n7
    | brk => obtain ⟨σ7, H7, I7, q7⟩ := q7; exact ⟨σ7, H7, I7.unpinned, q7⟩
    | ret v => obtain ⟨x7, σ7, H7, I7, r7, q7⟩ := q7; exact ⟨x7, σ7, H7, I7.unpinned, r7, q7⟩
end

end L2

namespace L2
open PySem PySem.Spec PyProof.Rows

abbrev R2 := V -> V -> Hp -> VK -> Prop
def OpR (X : Cx) (f : Value -> Value -> Sem Value) (r : R2) : Prop :=
  ∀ (pins : List (Addr × Obj)) (s : Shared) (σ : St) (H : Hp) (x y : V) (v u : Value) (Q : VK), Inv X pins σ H s -> RelV x v -> RelV y u -> r x y H Q ->
    wpAny (model X.prog X.w) X.A (f v u) (EP X pins σ Q) X.xe s
def UnR (X : Cx) (f : Value -> Sem Value) (r : V -> Hp -> VK -> Prop) : Prop :=
  ∀ (pins : List (Addr × Obj)) (s : Shared) (σ : St) (H : Hp) (x : V) (v : Value) (Q : VK), Inv X pins σ H s -> RelV x v -> r x H Q ->
    wpAny (model X.prog X.w) X.A (f v) (EP X pins σ Q) X.xe s
def CallR (X : Cx) (f : Value) (r : List V -> Hp -> VK -> Prop) : Prop :=
  ∀ (pins : List (Addr × Obj)) (s : Shared) (σ : St) (H : Hp) (xs : List V) (us : List Value) (Q : VK), Inv X pins σ H s -> Vals xs us -> r xs H Q ->
    wpAny (model X.prog X.w) X.A (call f us) (EP X pins σ Q) X.xe s
def tOp (r : R2) (ta tb : TE) : TE := fun σ H Q => ta σ H fun x H1 => tb σ H1 fun y H2 => r x y H2 Q
def tUn (r : V -> Hp -> VK -> Prop) (ta : TE) : TE := fun σ H Q => ta σ H fun x H1 => r x H1 Q
def rI (C : Int -> Int -> Prop) (g : Int -> Int -> V) : R2 := fun x y H Q => ∃ i j, x = .int i /\ y = .int j /\ C i j /\ Q (g i j) H
def rI0 (g : Int -> Int -> V) : R2 := fun x y H Q => ∃ i j, x = .int i /\ y = .int j /\ Q (g i j) H
def rU (g : Int -> V) : V -> Hp -> VK -> Prop := fun x H Q => ∃ i, x = .int i /\ Q (g i) H

section
variable {X : Cx} {a b c : Expr} {ta tb tc : TE} {pos : Pos}

theorem binT (ha : PE X a ta) (hb : PE X b tb) {pins : List (Addr × Obj)} {s : Shared} {σ : St} {H : Hp} {R : V -> V -> Hp -> Prop} (I : Inv X pins σ H s)
    (h : ta σ H fun x H1 => tb σ H1 fun y H2 => R x y H2) {Q : Value -> Shared -> Prop} {f : Value -> Value -> Sem Value}
    (hf : ∀ v u s2 x y H2, Inv X pins σ H2 s2 -> RelV x v -> RelV y u -> R x y H2 -> wpAny (model X.prog X.w) X.A (f v u) Q X.xe s2) :
    wpAny (model X.prog X.w) X.A (eval a X.env) (fun v s₁ => wpAny (model X.prog X.w) X.A (eval b X.env) (fun u s₂ => wpAny (model X.prog X.w) X.A (f v u) Q X.xe s₂) X.xe s₁) X.xe s := by
  refine thn (ha pins s σ H _ I h) fun v s1 ⟨x, H1, I1, r1, q1⟩ => ?_
  refine thn (hb pins s1 σ H1 _ I1 q1) fun u s2 ⟨y, H2, I2, r2, q2⟩ => ?_
  exact hf v u s2 x y H2 I2 r1 r2 q2

theorem pe_op {op : Operator} {r : R2} (ho : OpR X (binaryOp op) r) (ha : PE X a ta) (hb : PE X b tb) : PE X (.BinOp a op b pos) (tOp r ta tb) := by
  intro pins s σ H Q I h
  exact wpAny_BinOp (binT ha hb I h fun v u s2 x y H2 I2 rx ry q => ho pins s2 σ H2 x y v u Q I2 rx ry q)
theorem pe_un {op : UnaryOp} {r : V -> Hp -> VK -> Prop} (ho : UnR X (unaryOp op) r) (ha : PE X a ta) : PE X (.UnaryOp op a pos) (tUn r ta) := by
  intro pins s σ H Q I h
  exact UnaryOp_ (thn (ha pins s σ H _ I h) fun v s1 ⟨x, H1, I1, r1, q1⟩ => ho pins s1 σ H1 x v Q I1 r1 q1)
theorem opI {f : Value -> Value -> Sem Value} {C : Int -> Int -> Prop} {g : Int -> Int -> Int}
    (rule : ∀ (i j : Int) (t u : Tok) (s : Shared) (Q : Value -> Shared -> Prop) (E : Value -> Shared -> Prop), C i j -> Q (.int (g i j) s.toks) { s with toks := s.toks + 1 } -> wpAny (model X.prog X.w) X.A (f (.int i t) (.int j u)) Q E s) :
    OpR X f (rI C fun i j => .int (g i j)) := by
  intro pins s σ H x y v u Q I rx ry h
  obtain ⟨i, j, rfl, rfl, hc, q⟩ := h
  obtain ⟨t, rfl⟩ := rx
  obtain ⟨t', rfl⟩ := ry
  exact rule i j t t' s _ _ hc ⟨.int (g i j), H, I.tok _, ⟨_, rfl⟩, q⟩
theorem opI0 {f : Value -> Value -> Sem Value} {g : Int -> Int -> Int}
    (rule : ∀ (i j : Int) (t u : Tok) (s : Shared) (Q : Value -> Shared -> Prop) (E : Value -> Shared -> Prop), Q (.int (g i j) s.toks) { s with toks := s.toks + 1 } -> wpAny (model X.prog X.w) X.A (f (.int i t) (.int j u)) Q E s) :
    OpR X f (rI0 fun i j => .int (g i j)) := by
  intro pins s σ H x y v u Q I rx ry h
  obtain ⟨i, j, rfl, rfl, q⟩ := h
  obtain ⟨t, rfl⟩ := rx
  obtain ⟨t', rfl⟩ := ry
  exact rule i j t t' s _ _ ⟨.int (g i j), H, I.tok _, ⟨_, rfl⟩, q⟩
theorem opB0 {f : Value -> Value -> Sem Value} {g : Int -> Int -> Bool}
    (rule : ∀ (i j : Int) (t u : Tok) (s : Shared) (Q : Value -> Shared -> Prop) (E : Value -> Shared -> Prop), Q (.bool (g i j)) s -> wpAny (model X.prog X.w) X.A (f (.int i t) (.int j u)) Q E s) :
    OpR X f (rI0 fun i j => .bl (g i j)) := by
  intro pins s σ H x y v u Q I rx ry h
  obtain ⟨i, j, rfl, rfl, q⟩ := h
  obtain ⟨t, rfl⟩ := rx
  obtain ⟨t', rfl⟩ := ry
  exact rule i j t t' s _ _ ⟨.bl (g i j), H, I, rfl, q⟩

def CPow (i j : Int) : Prop := 0 <= j /\ j <= 1000000 /\ i.natAbs < 2 ^ 64
def CMul (i j : Int) : Prop := (-(2 ^ 64) < i /\ i < 2 ^ 64) \/ (-(2 ^ 64) < j /\ j < 2 ^ 64)
theorem CMul.ok {i j : Int} (h : CMul i j) : IntMulOk i j := by
  rcases h with ⟨h1, h2⟩ | ⟨h1, h2⟩
  . exact .of_left (intBits_le_64 h1 h2)
  . exact .of_right (intBits_le_64 h1 h2)
theorem op_add : OpR X (binaryOp .Add) (rI0 fun i j => .int (i + j)) := opI0 fun _ _ _ _ _ _ _ q => add_int q
theorem op_sub : OpR X (binaryOp .Sub) (rI0 fun i j => .int (i - j)) := opI0 fun _ _ _ _ _ _ _ q => sub_int q
theorem op_mul : OpR X (binaryOp .Mult) (rI CMul fun i j => .int (i * j)) := opI fun _ _ _ _ _ _ _ hc q => mul_int q hc.ok
theorem op_mod : OpR X (binaryOp .Mod) (rI (fun _ j => 0 < j) fun i j => .int (i % j)) := opI fun i j _ _ _ _ _ hc q => by
  have h1 : (0 : Int) < j := hc
  exact mod_int' (by omega) (by rw [Int.fmod_eq_emod_of_nonneg i (by omega)]; exact q)
theorem op_pow : OpR X (binaryOp .Pow) (rI CPow fun i j => .int (i ^ j.toNat)) := opI fun _ _ _ _ _ _ _ hc q => pow_int_small hc.1 hc.2.1 hc.2.2 q
theorem unI {f : Value -> Sem Value} {g : Int -> Int}
    (rule : ∀ (i : Int) (t : Tok) (s : Shared) (Q : Value -> Shared -> Prop) (E : Value -> Shared -> Prop), Q (.int (g i) s.toks) { s with toks := s.toks + 1 } -> wpAny (model X.prog X.w) X.A (f (.int i t)) Q E s) :
    UnR X f (rU fun i => .int (g i)) := by
  intro pins s σ H x v Q I rx h
  obtain ⟨i, rfl, q⟩ := h
  obtain ⟨t, rfl⟩ := rx
  exact rule i t s _ _ ⟨.int (g i), H, I.tok _, ⟨_, rfl⟩, q⟩
theorem un_neg : UnR X (unaryOp .USub) (rU fun i => .int (-i)) := unI fun _ _ _ _ _ q => neg_int q
end

def scal : V -> V -> Bool
  | .non, .non => true | .non, .int _ => true | .int _, .non => true | .non, .bl _ => true | .bl _, .non => true | .non, .str _ => true | .str _, .non => true
  | .int _, .int _ => true | .bl _, .bl _ => true | .str _, .str _ => true | .byt _, .byt _ => true
  | .int _, .str _ => true | .str _, .int _ => true | .bl _, .str _ => true | .str _, .bl _ => true
  | _, _ => false
def rEq : R2 := fun x y H Q => scal x y = true /\ Q (.bl (decide (x = y))) H
def rNe : R2 := fun x y H Q => scal x y = true /\ Q (.bl (!decide (x = y))) H

theorem dec_int {i j : Int} : decide (V.int i = V.int j) = (i == j) := by
  rw [Bool.eq_iff_iff]
  simp
theorem dec_bl {i j : Bool} : decide (V.bl i = V.bl j) = (i == j) := by
  rw [Bool.eq_iff_iff]
  simp
theorem dec_str {i j : Str} : decide (V.str i = V.str j) = (i == j) := by
  rw [Bool.eq_iff_iff]
  simp
theorem dec_byt {i j : Array UInt8} : decide (V.byt i = V.byt j) = (i.toList == j.toList) := by
  rw [Bool.eq_iff_iff]
  cases i
  cases j
  simp

section
variable {X : Cx} {a b c : Expr} {ta tb tc : TE} {pos : Pos}
theorem fin_bl {pins : List (Addr × Obj)} {σ : St} {H : Hp} {s : Shared} {Q : VK} {k k' : Bool} (I : Inv X pins σ H s) (q : Q (.bl k) H) (e : k = k') : EP X pins σ Q (.bool k') s := by
  subst e
  exact ⟨.bl k, H, I, rfl, q⟩
theorem op_eq : OpR X (compareOp .Eq) rEq := by
  intro pins s σ H x y v u Q I rx ry h
  obtain ⟨hs, q⟩ := h
  cases x with
  | non =>
    cases rx
    cases y with
    | non => cases ry; exact PySem.EqNone.eq_none_none (fin_bl I q (by simp))
    | bl j => cases ry; exact PySem.EqNone.eq_none_bool (fin_bl I q (by simp))
    | int j => obtain ⟨t', rfl⟩ := ry; exact PySem.EqNone.eq_none_int (fin_bl I q (by simp))
    | str j => obtain ⟨t', rfl⟩ := ry; exact PySem.EqNone.eq_none_str (fin_bl I q (by simp))
    | _ => exact absurd (show false = true from hs) Bool.false_ne_true
  | bl i =>
    cases rx
    cases y with
    | non => cases ry; exact PySem.EqNone.eq_bool_none (fin_bl I q (by simp))
    | bl j => cases ry; exact eq_bool (fin_bl I q dec_bl)
    | str j => obtain ⟨t', rfl⟩ := ry; exact PySem.EqMixed.eq_bool_str (fin_bl I q (by simp))
    | _ => exact absurd (show false = true from hs) Bool.false_ne_true
  | int i =>
    obtain ⟨t, rfl⟩ := rx
    cases y with
    | non => cases ry; exact PySem.EqNone.eq_int_none (fin_bl I q (by simp))
    | int j => obtain ⟨t', rfl⟩ := ry; exact eq_int (fin_bl I q dec_int)
    | str j => obtain ⟨t', rfl⟩ := ry; exact PySem.EqMixed.eq_int_str (fin_bl I q (by simp))
    | _ => exact absurd (show false = true from hs) Bool.false_ne_true
  | str i =>
    obtain ⟨t, rfl⟩ := rx
    cases y with
    | non => cases ry; exact PySem.EqNone.eq_str_none (fin_bl I q (by simp))
    | bl j => cases ry; exact PySem.EqMixed.eq_str_bool (fin_bl I q (by simp))
    | int j => obtain ⟨t', rfl⟩ := ry; exact PySem.EqMixed.eq_str_int (fin_bl I q (by simp))
    | str j => obtain ⟨t', rfl⟩ := ry; exact eq_str (fin_bl I q dec_str)
    | _ => exact absurd (show false = true from hs) Bool.false_ne_true
  | byt i =>
    obtain ⟨t, rfl⟩ := rx
    cases y with
    | byt j => obtain ⟨t', rfl⟩ := ry; exact PySem.W.eq_bytes (fin_bl I q dec_byt)
    | _ => exact absurd (show false = true from hs) Bool.false_ne_true
  | _ => cases y <;> exact absurd (show false = true from hs) Bool.false_ne_true
theorem op_ne : OpR X (compareOp .NotEq) rNe := by
  intro pins s σ H x y v u Q I rx ry h
  obtain ⟨hs, q⟩ := h
  cases x with
  | non =>
    cases rx
    cases y with
    | non => cases ry; exact PySem.EqNone.ne_none_none (fin_bl I q (by simp))
    | bl j => cases ry; exact PySem.EqNone.ne_none_bool (fin_bl I q (by simp))
    | int j => obtain ⟨t', rfl⟩ := ry; exact PySem.EqNone.ne_none_int (fin_bl I q (by simp))
    | str j => obtain ⟨t', rfl⟩ := ry; exact PySem.EqNone.ne_none_str (fin_bl I q (by simp))
    | _ => exact absurd (show false = true from hs) Bool.false_ne_true
  | bl i =>
    cases rx
    cases y with
    | non => cases ry; exact PySem.EqNone.ne_bool_none (fin_bl I q (by simp))
    | bl j => cases ry; exact ne_bool (fin_bl I q (congrArg not dec_bl))
    | str j => obtain ⟨t', rfl⟩ := ry; exact PySem.EqMixed.ne_bool_str (fin_bl I q (by simp))
    | _ => exact absurd (show false = true from hs) Bool.false_ne_true
  | int i =>
    obtain ⟨t, rfl⟩ := rx
    cases y with
    | non => cases ry; exact PySem.EqNone.ne_int_none (fin_bl I q (by simp))
    | int j => obtain ⟨t', rfl⟩ := ry; exact ne_int (fin_bl I q (congrArg not dec_int))
    | str j => obtain ⟨t', rfl⟩ := ry; exact PySem.EqMixed.ne_int_str (fin_bl I q (by simp))
    | _ => exact absurd (show false = true from hs) Bool.false_ne_true
  | str i =>
    obtain ⟨t, rfl⟩ := rx
    cases y with
    | non => cases ry; exact PySem.EqNone.ne_str_none (fin_bl I q (by simp))
    | bl j => cases ry; exact PySem.EqMixed.ne_str_bool (fin_bl I q (by simp))
    | int j => obtain ⟨t', rfl⟩ := ry; exact PySem.EqMixed.ne_str_int (fin_bl I q (by simp))
    | str j => obtain ⟨t', rfl⟩ := ry; exact ne_str (fin_bl I q (congrArg not dec_str))
    | _ => exact absurd (show false = true from hs) Bool.false_ne_true
  | byt i =>
    obtain ⟨t, rfl⟩ := rx
    cases y with
    | byt j => obtain ⟨t', rfl⟩ := ry; exact PySem.W.ne_bytes (fin_bl I q (congrArg not dec_byt))
    | _ => exact absurd (show false = true from hs) Bool.false_ne_true
  | _ => cases y <;> exact absurd (show false = true from hs) Bool.false_ne_true

theorem op_lt : OpR X (compareOp .Lt) (rI0 fun i j => .bl (decide (i < j))) := opB0 fun _ _ _ _ _ _ _ q => lt_int q
theorem op_le : OpR X (compareOp .LtE) (rI0 fun i j => .bl (decide (i <= j))) := opB0 fun _ _ _ _ _ _ _ q => le_int q
theorem op_gt : OpR X (compareOp .Gt) (rI0 fun i j => .bl (decide (j < i))) := opB0 fun _ _ _ _ _ _ _ q => gt_int q
theorem op_ge : OpR X (compareOp .GtE) (rI0 fun i j => .bl (decide (j <= i))) := opB0 fun _ _ _ _ _ _ _ q => ge_int q
theorem op_notN : OpR X (compareOp .IsNot) (fun x y H Q => y = .non /\ Q (.bl (!decide (x = .non))) H) := by
  intro pins s σ H x y v u Q I rx ry h
  obtain ⟨rfl, q⟩ := h
  cases ry
  refine isnot_none_gen (fin_bl I q ?_)
  cases x <;> first
    | (cases rx; rfl)
    | (obtain ⟨t, rfl⟩ := rx; rfl)

theorem OpR.or {f : Value -> Value -> Sem Value} {r r' : R2} (h : OpR X f r) (h' : OpR X f r') : OpR X f (fun x y H Q => r x y H Q \/ r' x y H Q) := by
  intro pins s σ H x y v u Q I rx ry q
  rcases q with q | q
  . exact h pins s σ H x y v u Q I rx ry q
  . exact h' pins s σ H x y v u Q I rx ry q

theorem nomark (b : Expr) {op : CmpOp} (h : op ≠ .In := by decide) (h2 : op ≠ .NotIn := by decide) : behindInMarks op b = false := by
  have e1 : (op == CmpOp.In) = false := by cases op <;> first | rfl | exact absurd rfl h
  have e2 : (op == CmpOp.NotIn) = false := by cases op <;> first | rfl | exact absurd rfl h2
  cases b <;> simp [behindInMarks, e1, e2]
theorem pe_cmpR {op : CmpOp} {r : R2} (ho : OpR X (compareOp op) r) (ha : PE X a ta) (hb : PE X b tb) (hm : behindInMarks op b = false) : PE X (.Compare a [op] [b] pos) (tOp r ta tb) := by
  intro pins s σ H Q I h
  exact wpAny_Compare1 (binT ha hb I h fun v u s2 x y H2 I2 rx ry q => ho pins s2 σ H2 x y v u Q I2 rx ry q) hm
def tTest (t : TE) : TT := fun σ H Q => t σ H fun x H' => ∃ k, x = .bl k /\ Q k H'
theorem pt_cmpR {op : CmpOp} {r : R2} (ho : OpR X (compareOp op) r) (ha : PE X a ta) (hb : PE X b tb) (hm : behindInMarks op b = false) : PT X (.Compare a [op] [b] pos) (tTest (tOp r ta tb)) := by
  intro pins s σ H Q I h
  refine wpAny_isTrue_Compare1 (thn (ha pins s σ H _ I h) fun v s1 ⟨x, H1, I1, r1, q1⟩ => thn (hb pins s1 σ H1 _ I1 q1) fun u s2 ⟨y, H2, I2, r2, q2⟩ =>
    thn (ho pins s2 σ H2 x y v u _ I2 r1 r2 q2) fun c s3 ⟨z, H3, I3, r3, k, e, q3⟩ => ?_) hm
  subst e
  cases r3
  exact wpAny_truthy_bool ⟨H3, I3, q3⟩
def tChain (r r' : R2) (ta tb tc : TE) : TE := fun σ H Q => ta σ H fun x H1 => tb σ H1 fun y H2 => r x y H2 fun z H3 => ∃ k, z = .bl k /\
  (if k = true then tc σ H3 fun w' H4 => r' y w' H4 Q else Q (.bl false) H3)
theorem pt_chain {op op' : CmpOp} {r r' : R2} (ho : OpR X (compareOp op) r) (ho' : OpR X (compareOp op') r') (ha : PE X a ta) (hb : PE X b tb) (hc : PE X c tc)
    (hm : lastMarks [op, op'] [b, c] = false := by with_unfolding_all rfl) : PT X (.Compare a [op, op'] [b, c] pos) (tTest (tChain r r' ta tb tc)) := by
  intro pins s σ H Q I h
  refine isTrue_chain (thn (ha pins s σ H _ I h) fun v s1 ⟨x, H1, I1, r1, q1⟩ => test_link (thn (hb pins s1 σ H1 _ I1 q1) fun u s2 ⟨y, H2, I2, r2, q2⟩ =>
    thn (ho pins s2 σ H2 x y v u _ I2 r1 r2 q2) fun d s3 ⟨z, H3, I3, r3, k, e, q3⟩ => ?_)) hm
  subst e
  cases r3
  refine wpAny_truthy_bool ?_
  cases k with
  | false =>
    obtain ⟨k', e', q'⟩ := q3
    cases e'
    exact ite_ff ⟨H3, I3, q'⟩
  | true =>
    refine ite_tt (test_last (thn (hc pins s3 σ H3 _ I3 q3) fun w' s4 ⟨z', H4, I4, r4, q4⟩ => thn (ho' pins s4 σ H4 y z' u w' _ I4 r2 r4 q4) fun d' s5 ⟨z2, H5, I5, r5, k2, e2, q5⟩ => ?_))
    subst e2
    cases r5
    exact wpAny_truthy_bool ⟨H5, I5, q5⟩

theorem line63 : (sizeLine : Nat) < 2 ^ 63 := by rw [sizeLine_eq]; decide
theorem op_add_str : OpR X (binaryOp .Add) (fun x y H Q => ∃ i j, x = .str i /\ y = .str j /\ i.length + j.length <= sizeLine /\ Q (.str (i ++ j)) H) := by
  intro pins s σ H x y v u Q I rx ry h
  obtain ⟨i, j, rfl, rfl, hz, q⟩ := h
  obtain ⟨t, rfl⟩ := rx
  obtain ⟨t', rfl⟩ := ry
  exact add_str (fun t' tk => ⟨.str (i ++ j), H, I.tok _, ⟨_, rfl⟩, q⟩) hz
theorem vals1 {x : V} {us : List Value} (r : Vals [x] us) : ∃ u, us = [u] /\ RelV x u := by
  cases r with
  | cons r1 r2 => cases r2; exact ⟨_, rfl, r1⟩
theorem vals2 {x y : V} {us : List Value} (r : Vals [x, y] us) : ∃ u w', us = [u, w'] /\ RelV x u /\ RelV y w' := by
  cases r with
  | cons r1 r2 =>
    cases r2 with
    | cons r3 r4 => cases r4; exact ⟨_, _, rfl, r1, r3⟩
theorem call_abs : CallR X (.builtin "abs") (fun xs H Q => ∃ i, xs = [.int i] /\ Q (.int (if i < 0 then -i else i)) H) := by
  intro pins s σ H xs us Q I r h
  obtain ⟨i, rfl, q⟩ := h
  obtain ⟨u, rfl, t, rfl⟩ := vals1 r
  exact call_abs_int fun u tk => ⟨.int (if i < 0 then -i else i), H, I.tok _, ⟨_, rfl⟩, q⟩
theorem call_max2 (hc : X.calm = true) : CallR X (.builtin "max") (fun xs H Q => ∃ i j, xs = [.int i, .int j] /\ Q (.int (if j > i then j else i)) H) := by
  intro pins s σ H xs us Q I r h
  obtain ⟨i, j, rfl, q⟩ := h
  obtain ⟨u, w', rfl, ⟨t, rfl⟩, ⟨t', rfl⟩⟩ := vals2 r
  refine max_two_ints (I.ok.hd hc) fun h' tk k => ⟨_, H, I.kept k, ?_, q⟩
  by_cases hj : j > i
  . rw [if_pos hj, if_pos hj]; exact ⟨_, rfl⟩
  . rw [if_neg hj, if_neg hj]; exact ⟨_, rfl⟩
theorem call_min2 (hc : X.calm = true) : CallR X (.builtin "min") (fun xs H Q => ∃ i j, xs = [.int i, .int j] /\ Q (.int (if j < i then j else i)) H) := by
  intro pins s σ H xs us Q I r h
  obtain ⟨i, j, rfl, q⟩ := h
  obtain ⟨u, w', rfl, ⟨t, rfl⟩, ⟨t', rfl⟩⟩ := vals2 r
  refine min_two_ints (I.ok.hd hc) fun h' tk k => ⟨_, H, I.kept k, ?_, q⟩
  by_cases hj : j < i
  . rw [if_pos hj, if_pos hj]; exact ⟨_, rfl⟩
  . rw [if_neg hj, if_neg hj]; exact ⟨_, rfl⟩
end
end L2

namespace L2
open PySem PySem.Spec PyProof.Rows

structure ObjM (h : Heap) (x dx C : Addr) (mA : Str -> Option Value) : Prop where
  obj : h.get? x = some (PySem.W.instObj C dx)
  ns : h.Ns1 dx mA
  ne : dx ≠ x

theorem lookIn_ns {h : Heap} {dx : Addr} {mA : Str -> Option Value} (n : h.Ns1 dx mA) : ∃ od, h.get? dx = some od /\ ∀ name, PySem.W.lookIn name od = some (mA name) := by
  obtain ⟨o, es, ep, ho, hd, hk, _, hm⟩ := n
  refine ⟨o, ho, fun name => ?_⟩
  have e := hm name
  unfold nsFind findBy at e
  rw [<- Array.find?_toList] at e
  unfold PySem.W.lookIn
  rw [hd]
  dsimp only
  split
  . rename_i y q
    rw [q] at e
    exact congrArg some e
  . rename_i q
    rw [q] at e
    have a : es.toList.any (·.refKey) = false := by
      rw [List.any_eq_false]
      intro y hy
      obtain ⟨z, t, hkey⟩ := hk y (Array.mem_toList_iff.mp hy)
      simp [DictEntry.refKey, hkey]
    have a' : ¬ es.toList.any (·.refKey) = true := by rw [a]; exact Bool.false_ne_true
    rw [if_neg a']
    exact congrArg some e

theorem ObjM.look {h : Heap} {x dx C : Addr} {mA : Str -> Option Value} (I : ObjM h x dx C mA) : ∃ od, PySem.W.InstAt h x (PySem.W.instObj C dx) C (some od) /\ ∀ name, PySem.W.lookIn name od = some (mA name) :=
  let ⟨od, ho, hl⟩ := lookIn_ns I.ns
  ⟨od, ⟨I.obj, rfl, rfl, ho⟩, hl⟩

section
variable {prog : Program} {w : World} {A : Around} {E : Value -> Shared -> Prop} {s : Shared} {K : PySem.W.Frag} {x dx C f : Addr} {mA : Str -> Option Value} {name : Str} {v : Value}

theorem get_map {expr : Bool} {Q : Value -> Shared -> Prop} (X : K.In s.heap) (I : ObjM s.heap x dx C mA) (hg : PySem.W.plainGet K C name = true) (hh : PySem.W.hasDictIn K C = true)
    (ha : PySem.W.findIn K (.ref C) name = some none) (hv : mA name = some v) (hv' : PySem.W.handedIn v = true) (h : Q v { s with toks := s.toks + 1 }) :
    wpAny (model prog w) A (getAttr (.ref x) name expr) Q E s := by
  obtain ⟨od, J, hl⟩ := I.look
  exact PySem.W.get_value X J (PySem.W.plainGet_of hg).1 (PySem.W.findObj_own hh ha rfl (by rw [hl, hv])) hv' h

theorem get_meth {pl : Sem Bool} {Q : Value × List Value -> Shared -> Prop} (X : K.In s.heap) (I : ObjM s.heap x dx C mA) (hg : PySem.W.plainGet K C name = true)
    (hf : PySem.W.findIn K (.ref C) name = some (some (.ref f))) (ht : PySem.W.isFn K (.ref f) = true) (hv : mA name = none) (h : Q (.ref f, [.ref x]) s) :
    wpAny (model prog w) A (getMethod (.ref x) name pl) Q E s := by
  obtain ⟨od, J, hl⟩ := I.look
  exact PySem.W.method_fn X J (PySem.W.plainGet_of hg).1 (PySem.W.plainGet_of hg).2 hf (beq_iff_eq.mp ht) (by show (PySem.W.lookIn name od).map (·.isSome) = some false; rw [hl, hv]; rfl) h

theorem set_map {ns : List Str} {Q : Unit -> Shared -> Prop} (X : K.In s.heap) (I : ObjM s.heap x dx C mA)
    (hs : PySem.W.findIn K (.ref C) "__setattr__" = some (some (.builtin "object.__setattr__"))) (hp : PySem.W.plainOver K C = true) (ht : PySem.W.takerIn K C name = some none) (hh : PySem.W.hasDictIn K C = true)
    (hw : PySem.Within mA ns) (hsz : ns.length <= sizeLine)
    (h : ∀ h', ObjM h' x dx C (fun y => if y = name then some v else mA y) -> Heap.SameBut dx s.heap h' -> Q () { s with heap := h', toks := s.toks + 2 }) :
    wpAny (model prog w) A (setAttr (.ref x) name v) Q E s := by
  obtain ⟨od, J, hl⟩ := I.look
  refine PySem.W.set_plain X J hs (PySem.W.osa_open (s := { s with toks := s.toks + 1 }) (r := none) X J hp ht fun b => ?_)
  obtain ⟨cd, hc, hd'⟩ := PySem.W.any_some hh
  have hx : s.heap.get? x = some ⟨.ref C, some dx, .plain, #[]⟩ := I.obj
  refine wpAny_bind (wpAny_pure (wpAny_bind (wpAny_bind (wpAny_loadPart hx (wpAny_bind (PySem.W.Looks.here (s := { s with toks := s.toks + 1 }) (PySem.W.looks_clsIn X hc) ?_))))))
  rw [hd']
  refine wpAny_pure (a := some dx) (wpAny_bind (wpAny_pure (wpAny_bind ?_)))
  refine wpAny_nsSet1 (s := { s with toks := s.toks + 1 }) I.ns fun h' hn2 hs2 => ?_
  obtain ⟨oD, esD, epD, hoD, hdD, hcD⟩ := hn2.count (PySem.Within.cons name v hw)
  refine wpAny_bind (wpAny_lookBehind hoD (by rw [hdD]; exact pastItsLine_dict (Nat.le_trans hcD (by rw [List.length_cons]; omega))) ?_)
  exact wpAny_pure (h _ ⟨(hs2.2 _ (Ne.symm I.ne)).trans I.obj, hn2, I.ne⟩ hs2)

theorem make_map {R : Result -> Shared -> Prop} {vs : List Value} {kw : List (Str × Value)} (X : K.In s.heap) (hm : PySem.W.makesIn K C = true)
    (hi : PySem.W.findIn K (.ref C) "__init__" = some (some (.ref f))) (hf : PySem.W.typeIn K (.ref f) = some (.type "function"))
    (h : codeAny (model prog w) (A.under (.builtin "type.__call__" ⟨.ref C :: vs, kw⟩)) (.call (.ref f) ⟨.ref (s.heap.objs.size + 1) :: vs, kw⟩) (PySem.W.InitBack (s.heap.objs.size + 1) R)
      { s with heap := (s.heap.push PySem.W.emptyDict).push (PySem.W.instObj C s.heap.objs.size) }) :
    codeAny (model prog w) A (.call (.ref C) ⟨vs, kw⟩) R s := by
  obtain ⟨hh, g, d, t, os⟩ := s
  exact PySem.W.make_core (PySem.W.makes_of X hm) (PySem.W.looks_findIn X hi) (fun self => PySem.W.bind_fn X self hf) (.inl rfl) h
end

def putF (f : Str) (v : V) : List (Str × V) -> List (Str × V)
  | [] => [(f, v)]
  | (g, x) :: r => if g = f then (g, v) :: r else (g, x) :: putF f v r
theorem lookup_putF (f g : Str) (v : V) : ∀ fs : List (Str × V), (putF f v fs).lookup g = if g = f then some v else fs.lookup g
  | [] => by
    show List.lookup g [(f, v)] = _
    by_cases h : g = f
    . have hb : (g == f) = true := beq_iff_eq.mpr h
      simp only [List.lookup, hb, if_pos h]
    . have hb : (g == f) = false := beq_eq_false_iff_ne.mpr h
      simp only [List.lookup, hb, if_neg h]
  | (k, x) :: r => by
    have ih := lookup_putF f g v r
    rw [show putF f v ((k, x) :: r) = (if k = f then (k, v) :: r else (k, x) :: putF f v r) from rfl]
    by_cases hk : k = f
    . rw [if_pos hk]
      by_cases h : g = k
      . have hb : (g == k) = true := beq_iff_eq.mpr h
        simp only [List.lookup, hb, if_pos (h.trans hk)]
      . have hb : (g == k) = false := beq_eq_false_iff_ne.mpr h
        simp only [List.lookup, hb, if_neg (fun e : g = f => h (e.trans hk.symm))]
    . rw [if_neg hk]
      by_cases h : g = k
      . have hb : (g == k) = true := beq_iff_eq.mpr h
        simp only [List.lookup, hb, if_neg (fun e : g = f => hk (h.symm.trans e))]
      . have hb : (g == k) = false := beq_eq_false_iff_ne.mpr h
        simp only [List.lookup, hb]
        exact ih
theorem keys_putF (f : Str) (v : V) : ∀ fs : List (Str × V), f ∈ (putF f v fs).map (·.1) /\ ∀ g, g ∈ fs.map (·.1) -> g ∈ (putF f v fs).map (·.1)
  | [] => ⟨by simp [putF], fun g h => by simp at h⟩
  | (k, x) :: r => by
    obtain ⟨i1, i2⟩ := keys_putF f v r
    rw [show putF f v ((k, x) :: r) = (if k = f then (k, v) :: r else (k, x) :: putF f v r) from rfl]
    by_cases hk : k = f
    . rw [if_pos hk]
      subst hk
      exact ⟨by simp, fun g h => by simpa using h⟩
    . rw [if_neg hk]
      refine ⟨?_, fun g h => ?_⟩
      . rw [List.map_cons]
        exact List.mem_cons_of_mem _ i1
      . rw [List.map_cons] at h ⊢
        rcases List.mem_cons.mp h with e | e
        . exact List.mem_cons.mpr (.inl e)
        . exact List.mem_cons_of_mem _ (i2 g e)
theorem length_putF (f : Str) (v : V) : ∀ fs : List (Str × V), (putF f v fs).length <= fs.length + 1
  | [] => by simp [putF]
  | (k, x) :: r => by
    have ih := length_putF f v r
    rw [show putF f v ((k, x) :: r) = (if k = f then (k, v) :: r else (k, x) :: putF f v r) from rfl]
    by_cases hk : k = f
    . rw [if_pos hk, List.length_cons, List.length_cons]; omega
    . rw [if_neg hk, List.length_cons, List.length_cons]; omega

theorem RelO.some_of {v : V} {o : Option Value} (r : RelO (some v) o) : ∃ u, o = some u /\ RelV v u := by
  cases o with
  | none => exact (show False from r).elim
  | some u => exact ⟨u, rfl, r⟩
theorem RelO.none_of {o : Option Value} (r : RelO none o) : o = none := by
  cases o with
  | none => rfl
  | some u => exact (show False from r).elim
theorem handed_of {v : V} {u : Value} (r : RelV v u) : PySem.W.handedIn u = true := by
  cases v with
  | non => cases (show u = Value.none from r); rfl
  | bl b => cases (show u = Value.bool b from r); rfl
  | int i => obtain ⟨t, e⟩ := (show ∃ t, u = Value.int i t from r); cases e; rfl
  | str x => obtain ⟨t, e⟩ := (show ∃ t, u = Value.str x t from r); cases e; rfl
  | byt b => obtain ⟨t, e⟩ := (show ∃ t, u = Value.bytes b t from r); cases e; rfl
  | flt b => obtain ⟨t, e⟩ := (show ∃ t, u = Value.float b t from r); cases e; rfl
  | ref a => cases (show u = Value.ref a from r); rfl
  | ty n => cases (show u = Value.type n from r); rfl

section
variable {P : Program} {w : World} {H H' : Hp} {h h' : Heap} {a C dx : Addr} {fs fs' : List (Str × V)}
theorem ins_get (hok : HOk P w H h) (e : H a = some (.ins C dx fs)) : ∃ mA, ObjM h a dx C mA /\ (∀ f, RelO (fs.lookup f) (mA f)) /\ PySem.Within mA (fs.map (·.1)) /\ fs.length <= 1000 /\ H dx = some (.own a) := by
  obtain ⟨d, z, ne, ob, mA, n, r, q⟩ := (show ObjOk P w H h a (.ins C dx fs) from hok a _ e)
  exact ⟨mA, ⟨ob, n, ne⟩, r, q, z, d⟩
end

structure Cls (K : PySem.W.Frag) (C : Addr) : Prop where
  pg : PySem.W.plainGet K C Str.empty = true
  hd : PySem.W.hasDictIn K C = true
  po : PySem.W.plainOver K C = true
  sa : PySem.W.findIn K (.ref C) "__setattr__" = some (some (.builtin "object.__setattr__"))
theorem Cls.get {K : PySem.W.Frag} {C : Addr} (c : Cls K C) (f : Str) : PySem.W.plainGet K C f = true := c.pg
def NoAttr (K : PySem.W.Frag) (C : Addr) (f : Str) : Prop := PySem.W.findIn K (.ref C) f = some none
theorem NoAttr.taker {K : PySem.W.Frag} {C : Addr} {f : Str} (n : NoAttr K C f) : PySem.W.takerIn K C f = some none := by
  unfold PySem.W.takerIn
  rw [show PySem.W.findIn K (.ref C) f = some none from n]
  rfl
structure Meth (K : PySem.W.Frag) (C : Addr) (m : Str) (f : Addr) : Prop where
  at_ : PySem.W.findIn K (.ref C) m = some (some (.ref f))
  fn : PySem.W.isFn K (.ref f) = true
  kp : PySem.W.keepIn K (.ref f) = true

section
variable {X : Cx} {pins : List (Addr × Obj)} {σ : St} {H : Hp} {s : Shared} {a C dx : Addr} {fs : List (Str × V)} {f : Str} {v : V} {A : Around} {E : Value -> Shared -> Prop}

theorem getattr_ok {b : Bool} {Q : Value -> Shared -> Prop} (I : Inv X pins σ H s) (e : H a = some (.ins C dx fs)) (c : Cls X.K C) (n : NoAttr X.K C f) (l : fs.lookup f = some v)
    (h : ∀ u s', Inv X pins σ H s' -> RelV v u -> Q u s') : wpAny (model X.prog X.w) A (getAttr (.ref a) f b) Q E s := by
  obtain ⟨mA, O, r, _, _, _⟩ := ins_get I.hok e
  obtain ⟨u, hu, ru⟩ := RelO.some_of (v := v) (o := mA f) (by rw [<- l]; exact r f)
  exact get_map I.kIn O (c.get f) c.hd n hu (handed_of ru) (h u _ (I.tok _) ru)

theorem getmeth_ok {m : Str} {g : Addr} {pl : Sem Bool} {Q : Value × List Value -> Shared -> Prop} (I : Inv X pins σ H s) (e : H a = some (.ins C dx fs)) (c : Cls X.K C) (k : Meth X.K C m g) (l : fs.lookup m = none)
    (h : Q (.ref g, [.ref a]) s) : wpAny (model X.prog X.w) A (getMethod (.ref a) m pl) Q E s := by
  obtain ⟨mA, O, r, _, _, _⟩ := ins_get I.hok e
  have hn : mA m = none := RelO.none_of (by rw [<- l]; exact r m)
  exact get_meth I.kIn O (c.get m) k.at_ k.fn hn h

theorem setattr_ok {y : V} {u : Value} {Q : Unit -> Shared -> Prop} (I : Inv X pins σ H s) (e : H a = some (.ins C dx fs)) (c : Cls X.K C) (n : NoAttr X.K C f) (hl : fs.length < 1000) (ry : RelV y u)
    (h : ∀ s', Inv X pins σ (upd H a (.ins C dx (putF f y fs))) s' -> Q () s') : wpAny (model X.prog X.w) A (setAttr (.ref a) f u) Q E s := by
  obtain ⟨mA, O, r, wi, _, ho⟩ := ins_get I.hok e
  have hz : (fs.map (·.1)).length <= sizeLine := by rw [List.length_map, sizeLine_eq]; omega
  refine set_map I.kIn O c.sa c.po n.taker c.hd wi hz fun h' O' sb => h _ ?_
  have hd : ∃ o, h'.get? dx = some o := let ⟨o, _, _, e', _⟩ := O'.ns; ⟨o, e'⟩
  refine I.write (x := a) (e := dx) (by rw [e]; exact True.intro) (.inr ho) (fun b q hb z => (sb.2 b hb).trans z) hd ?_
  refine ⟨by rw [upd_ne O.ne]; exact ho, ?_, O.ne, O'.obj, _, O'.ns, fun g => ?_, fun g hg => ?_⟩
  . have := length_putF f y fs; omega
  . show RelO ((putF f y fs).lookup g) (if g = f then some u else mA g)
    rw [lookup_putF]
    by_cases q : g = f
    . rw [if_pos q, if_pos q]; exact ry
    . rw [if_neg q, if_neg q]; exact r g
  . by_cases q : g = f
    . rw [q]; exact (keys_putF f y fs).1
    . refine (keys_putF f y fs).2 g (wi g fun z => hg ?_)
      show (if g = f then some u else mA g) = none
      rw [if_neg q]; exact z

theorem Inv.made (I : Inv X pins σ H s) : Inv X pins σ (upd (upd H s.heap.objs.size (.own (s.heap.objs.size + 1))) (s.heap.objs.size + 1) (.ins C s.heap.objs.size []))
    { s with heap := (s.heap.push PySem.W.emptyDict).push (PySem.W.instObj C s.heap.objs.size) } := by
  have e1 : (s.heap.push PySem.W.emptyDict).get? s.heap.objs.size = some PySem.W.emptyDict := Heap.get?_push_size s.heap rfl
  have e2 : ((s.heap.push PySem.W.emptyDict).push (PySem.W.instObj C s.heap.objs.size)).get? (s.heap.objs.size + 1) = some (PySem.W.instObj C s.heap.objs.size) := by
    have := Heap.get?_push_size (s.heap.push PySem.W.emptyDict) (o := PySem.W.instObj C s.heap.objs.size) rfl
    rwa [Heap.size_push] at this
  have e3 : (s.heap.push PySem.W.emptyDict).Ns s.heap.objs.size (fun _ => none) := ⟨PySem.W.emptyDict, #[], _, e1, rfl, (fun e he => absurd he (by simp)), fun _ => rfl⟩
  have I1 := I.laid (a := s.heap.objs.size) (o := .own (s.heap.objs.size + 1)) (h' := s.heap.push PySem.W.emptyDict) (t' := s.toks) (fun b u q => Heap.get?_push_of_some _ q) (Nat.le_refl _) ⟨_, e1⟩
  refine I1.laid (a := s.heap.objs.size + 1) (o := .ins C s.heap.objs.size []) (t' := s.toks) (fun b u q => Heap.get?_push_of_some _ q) (Nat.le_of_eq (Heap.size_push _ _)) ?_
  have ne : s.heap.objs.size ≠ s.heap.objs.size + 1 := Nat.ne_of_lt (Nat.lt_succ_self _)
  refine ⟨by rw [upd_ne ne, upd_same], Nat.zero_le _, ne, e2, fun _ => none, (Heap.Ns1.of_empty e3).at fun o q => Heap.get?_push_of_some _ q, fun _ => True.intro, fun y hy => absurd rfl hy⟩

theorem attr_of {prog : Program} {w : World} {env : Env} {e : Expr} {f : Str} {pos : Pos} {s : Shared} {Q : Value -> Shared -> Prop} (hb : attributeBase e f env (eval e env) = eval e env)
    (h : wpAny (model prog w) A (eval e env) (fun o s₁ => wpAny (model prog w) A (getAttr o f true) Q E s₁) E s) : wpAny (model prog w) A (eval (.Attribute e f pos) env) Q E s :=
  Attribute_any_ h (by rw [arm_eval_Attribute, hb])
end

def tFld (K : PySem.W.Frag) (ta : TE) (f : Str) : TE := fun σ H Q => ta σ H fun x H1 => ∃ a C dx fs v, x = .ref a /\ H1 a = some (.ins C dx fs) /\ Cls K C /\ NoAttr K C f /\ fs.lookup f = some v /\ Q v H1
def sFld (K : PySem.W.Frag) (ta tv : TE) (f : Str) : TS := fun D σ H => tv σ H fun y H1 => ta σ H1 fun x H2 => ∃ a C dx fs, x = .ref a /\ H2 a = some (.ins C dx fs) /\ Cls K C /\ NoAttr K C f /\ fs.length < 1000 /\
  D.nx σ (upd H2 a (.ins C dx (putF f y fs)))
section
variable {X : Cx} {o e value : Expr} {f : Str} {pos pos' tpos : Pos} {ta tv : TE}
theorem pe_fld (he : PE X e ta) (hb : attributeBase e f X.env (eval e X.env) = eval e X.env) : PE X (.Attribute e f pos) (tFld X.K ta f) := by
  intro pins s σ H Q I h
  refine attr_of hb (thn (he pins s σ H _ I h) fun u s1 ⟨x, H1, I1, rx, a, C, dx, fs, v, ex, ea, c, n, l, q⟩ => ?_)
  subst ex
  obtain rfl : u = Value.ref a := rx
  exact getattr_ok I1 ea c n l fun u' s2 I2 ru => ⟨v, H1, I2, ru, q⟩
theorem ps_fld (ha : PE X o ta) (hv : PE X value tv) (hs : swapsWith value (some (.Attribute o f pos')) pos.line X.env = pure false) : PS X (.Assign [.Attribute o f pos'] value pos) (sFld X.K ta tv f) := by
  intro pins s σ H D I h
  refine plainObj_wpAny_Assign_Attribute (thn (hv pins s σ H _ I h) fun u s1 ⟨y, H1, I1, ry, q⟩ => thn (ha pins s1 σ H1 _ I1 q) fun ov s2 ⟨x, H2, I2, rx, a, C, dx, fs, ex, ea, c, n, l, q2⟩ => ?_) hs
  subst ex
  obtain rfl : ov = Value.ref a := rx
  exact setattr_ok I2 ea c n l ry fun s3 I3 => ⟨σ, _, I3, q2⟩
end

section
variable {X : Cx} {pins : List (Addr × Obj)} {σ : St} {H : Hp} {s : Shared} {A : Around} {E : Value -> Shared -> Prop} {Q : Value -> Shared -> Prop} {c : Value} {b : Bool}
inductive TyOf (K : PySem.W.Frag) (H : Hp) : V -> Value -> Prop where
  | non : TyOf K H .non (.type "NoneType")
  | bl (x : Bool) : TyOf K H (.bl x) (.type "bool")
  | int (i : Int) : TyOf K H (.int i) (.type "int")
  | str (x : Str) : TyOf K H (.str x) (.type "str")
  | flt (x : UInt64) : TyOf K H (.flt x) (.type "float")
  | lst {a : Addr} {xs : List V} (e : H a = some (.lst xs)) : TyOf K H (.ref a) (.type "list")
  | frz {a : Addr} {o : Obj} {xs : List V} (e : H a = some (.frz o (.lst xs))) : TyOf K H (.ref a) (.type "list")
  | tup {a : Addr} {xs : List V} (e : H a = some (.tup xs)) : TyOf K H (.ref a) (.type "tuple")
  | dK {a : Addr} {kvs : List (Key × V)} (e : H a = some (.dK kvs)) : TyOf K H (.ref a) (.type "dict")
  | dT {a : Addr} {kvs : List (List Key × V)} (e : H a = some (.dT kvs)) : TyOf K H (.ref a) (.type "dict")
  | ins {a C dx : Addr} {fs : List (Str × V)} (e : H a = some (.ins C dx fs)) (cl : Cls K C) (ha : PySem.W.findIn K (.ref C) "__class__" = some (some (.builtin "object.__class__")))
      (hn : PySem.W.specialIn K (.builtin "object.__class__") "__get__" = some (some (.builtin "getset_descriptor.__get__"))) (htk : PySem.W.takesIn K (.builtin "object.__class__") = some true)
      (hm : PySem.W.mroIn K C (.type "object") = some true) : TyOf K H (.ref a) (.ref C)
theorem isinst_ok {x : V} {u t : Value} (I : Inv X pins σ H s) (rx : RelV x u) (ty : TyOf X.K H x t) (e : PySem.W.kitOne X.K t c = some b) (h : ∀ tk, Q (.bool b) { s with toks := tk }) :
    wpAny (model X.prog X.w) A (call (.builtin "isinstance") [u, c]) Q E s := by
  cases ty with
  | non => cases (show u = Value.none from rx); exact PySem.W.kia_one PySem.W.kitx_none I.kIn True.intro e (fun z => nomatch z) h
  | bl y => cases (show u = Value.bool y from rx); exact PySem.W.kia_one PySem.W.kitx_bool I.kIn True.intro e (fun z => nomatch z) h
  | int i => obtain ⟨t, q⟩ := (show ∃ t, u = Value.int i t from rx); cases q; exact PySem.W.kia_one PySem.W.kitx_int I.kIn True.intro e (fun z => nomatch z) h
  | str y => obtain ⟨t, q⟩ := (show ∃ t, u = Value.str y t from rx); cases q; exact PySem.W.kia_one PySem.W.kitx_str I.kIn True.intro e (fun z => nomatch z) h
  | flt y => obtain ⟨t, q⟩ := (show ∃ t, u = Value.float y t from rx); cases q; exact PySem.W.kia_one PySem.W.kitx_float I.kIn True.intro e (fun z => nomatch z) h
  | @lst a xs ea =>
    cases (show u = Value.ref a from rx)
    obtain ⟨_, _, n, _, h1⟩ := (show ObjOk X.prog X.w H s.heap a (.lst xs) from I.hok a _ ea)
    exact PySem.W.kia_one PySem.W.kitx_list I.kIn ⟨_, h1, rfl⟩ e (fun z => nomatch z) h
  | @frz a ob xs ea =>
    cases (show u = Value.ref a from rx)
    obtain ⟨_, _, _, n, _, h1⟩ := (show ObjOk X.prog X.w H s.heap a (.frz ob (.lst xs)) from I.hok a _ ea)
    exact PySem.W.kia_one PySem.W.kitx_list I.kIn ⟨_, h1, rfl⟩ e (fun z => nomatch z) h
  | @tup a xs ea =>
    cases (show u = Value.ref a from rx)
    obtain ⟨_, _, _, p⟩ := (show ObjOk X.prog X.w H s.heap a (.tup xs) from I.hok a _ ea)
    obtain ⟨o, h1, h2, _⟩ := p
    exact PySem.W.kia_one PySem.W.kitx_tuple I.kIn ⟨o, h1, h2⟩ e (fun z => nomatch z) h
  | @dK a kvs ea =>
    cases (show u = Value.ref a from rx)
    obtain ⟨_, _, vs, _, p⟩ := (show ObjOk X.prog X.w H s.heap a (.dK kvs) from I.hok a _ ea)
    obtain ⟨o, es, ep, h1, h2, _⟩ := p
    exact PySem.W.kia_one PySem.W.kitx_dict I.kIn ⟨o, h1, h2.1⟩ e (fun z => nomatch z) h
  | @dT a kvs ea =>
    cases (show u = Value.ref a from rx)
    obtain ⟨_, _, xs, _, o, es, ep, h1, h2, _⟩ := (show ObjOk X.prog X.w H s.heap a (.dT kvs) from I.hok a _ ea)
    exact PySem.W.kia_one PySem.W.kitx_dict I.kIn ⟨o, h1, h2.1⟩ e (fun z => nomatch z) h
  | @ins a C dx fs ea cl ha hn htk hm =>
    cases (show u = Value.ref a from rx)
    obtain ⟨mA, O, _⟩ := ins_get I.hok ea
    obtain ⟨od, J, _⟩ := O.look
    exact PySem.W.kia_one (PySem.W.kitx_own (cl.get _) cl.hd ha hn htk hm) I.kIn J e (fun z => nomatch z) h
end
end L2

namespace L2
open PySem PySem.Spec PyProof.Rows

structure RoomC (cm : Bool) (k : Nat) (A : Around) : Prop where
  hd : cm = true -> A.handled = none
  dp : A.depth + 3 * k + 5 < recursionLimit
  un : A.units + 16 * k + 200 < cLine
  gd : A.guards = some []
abbrev Room (k : Nat) (A : Around) : Prop := RoomC true k A
theorem RoomC.mono {cm : Bool} {j k : Nat} {A : Around} (r : RoomC cm k A) (h : j <= k) : RoomC cm j A := ⟨r.hd, by have := r.dp; omega, by have := r.un; omega, r.gd⟩
theorem RoomC.deeper {cm : Bool} {k : Nat} {A : Around} (r : RoomC cm (k + 1) A) (env : Env) : RoomC cm k (A.deeper env) :=
  ⟨r.hd, by have := r.dp; show A.depth + 1 + 3 * k + 5 < _; omega, by have := r.un; show A.units + 3 + 16 * k + 200 < _; omega, r.gd⟩
theorem make_depth {A : Around} {C : Addr} {us : List Value} {kw : List (Str × Value)} : (A.under (.builtin "type.__call__" ⟨.ref C :: us, kw⟩)).depth = A.depth + 1 := by
  first | rfl | simp [Around.under, Code.weight, Code.isCreation, Code.isGuard, Code.isCaller, Code.frames, Code.isFrame, guardIds]
theorem make_units {A : Around} {C : Addr} {us : List Value} {kw : List (Str × Value)} : (A.under (.builtin "type.__call__" ⟨.ref C :: us, kw⟩)).units = A.units + 1 := by
  first | rfl | simp [Around.under, Code.cUnits, Code.frames, Code.isFrame]
theorem make_guards {A : Around} {C : Addr} {us : List Value} {kw : List (Str × Value)} : (A.under (.builtin "type.__call__" ⟨.ref C :: us, kw⟩)).guards = A.guards := by
  first | rfl | simp [Around.under, Code.guards, Code.isGuard, guardIds, pushGuards]
theorem RoomC.make {cm : Bool} {k : Nat} {A : Around} (r : RoomC cm (k + 1) A) (C : Addr) (us : List Value) (kw : List (Str × Value)) : RoomC cm k (A.under (.builtin "type.__call__" ⟨.ref C :: us, kw⟩)) :=
  ⟨r.hd, by have := r.dp; rw [make_depth]; omega, by have := r.un; rw [make_units]; omega, by rw [make_guards]; exact r.gd⟩
theorem RoomC.depth {cm : Bool} {k : Nat} {A : Around} (r : RoomC cm k A) : A.depth < recursionLimit := by have := r.dp; omega
theorem RoomC.units {cm : Bool} {k : Nat} {A : Around} (r : RoomC cm k A) : A.units + 64 < cLine := by have := r.un; omega
def tNil : TA := fun _ H Q => Q [] H
def tCons (ta : TE) (tr : TA) : TA := fun σ H Q => ta σ H fun x H1 => tr σ H1 fun xs H2 => Q (x :: xs) H2
section
variable {X : Cx} {e : Expr} {es : List Expr} {te : TE} {t : TA} {pos : Pos}
theorem pa_nil : PA X [] tNil := fun _ _ _ _ H Q I h => Calls.spliced_nil ⟨[], H, I, .nil, h⟩
theorem pa_cons (ha : PE X e te) (hr : PA X es t) (hs : starEach (e :: es) X.env = (false, eval e X.env) :: starEach es X.env := by rfl) : PA X (e :: es) (tCons te t) := by
  intro pos pins s σ H Q I h
  rw [hs]
  show wpAny _ _ (spliced ((false, eval e X.env) :: backTo pos (starEach es X.env))) _ _ s
  refine Calls.spliced_cons (thn (ha pins s σ H _ I h) fun u s1 ⟨x, H1, I1, r1, q1⟩ => ?_)
  exact thn (hr pos pins s1 σ H1 _ I1 q1) fun us s2 ⟨xs, H2, I2, r2, q2⟩ => ⟨x :: xs, H2, I2, .cons r1 r2, q2⟩

def tTup (t : TA) : TE := fun σ H Q => t σ H fun xs H1 => xs.length <= sizeLine /\ ∀ p, H1 p = none -> Q (.ref p) (upd H1 p (.tup xs))
def tLst (t : TA) : TE := fun σ H Q => t σ H fun xs H1 => xs.length <= sizeLine /\ ∀ p, H1 p = none -> Q (.ref p) (upd H1 p (.lst xs))
theorem pe_tup {x1} (h : PA X es t) : PE X (.Tuple es x1 pos) (tTup t) := by
  intro pins s σ H Q I hq
  refine wpAny_Tuple_spliced (thn (h pos pins s σ H _ I hq) fun us s1 ⟨xs, H1, I1, r, z, q⟩ => ⟨by rw [<- r.length]; exact z, ?_⟩)
  have hf : H1 s1.heap.objs.size = none := I1.hok.fresh (Nat.le_refl _)
  refine ⟨.ref s1.heap.objs.size, upd H1 s1.heap.objs.size (.tup xs), I1.laid (t' := s1.toks) (fun b u e => Heap.get?_push_of_some _ e) (Nat.le_refl _) ?_, rfl, q _ hf⟩
  exact ⟨z, us, r, ⟨_, Heap.get?_push_size _ rfl, rfl, _, rfl⟩⟩
theorem pe_lst (h : PA X es t) : PE X (.List es pos) (tLst t) := by
  intro pins s σ H Q I hq
  refine wpAny_List_spliced (thn (h pos pins s σ H _ I hq) fun us s1 ⟨xs, H1, I1, r, z, q⟩ => ⟨by rw [<- r.length]; exact z, ?_⟩)
  have hf : H1 s1.heap.objs.size = none := I1.hok.fresh (Nat.le_refl _)
  refine ⟨.ref s1.heap.objs.size, upd H1 s1.heap.objs.size (.lst xs), I1.laid (t' := s1.toks) (fun b u e => Heap.get?_push_of_some _ e) (Nat.le_refl _) ?_, rfl, q _ hf⟩
  exact ⟨z, us, 0, r, Heap.get?_push_size _ rfl⟩
end

abbrev Sp := List V -> Hp -> VK -> XK -> Prop
abbrev CXT := List Env -> Hp -> Shared -> XK -> Value -> Shared -> Prop

structure Env0 (P : Program) (w : World) (K : PySem.W.Frag) (mg : Str -> Option Value) (base : Heap) (A : Around) (outer : List Env) (s : Shared) (H : Hp) : Prop where
  frames : A.frames = some outer
  mod : Mod K mg base
  bs : ∀ b o, base.get? b = some o -> s.heap.get? b = some o /\ H b = none
  bsz : base.objs.size <= s.heap.objs.size
  funs : s.heap.FunFrames base outer
  frf : ∀ b ∈ frs outer, H b = none
  hok : HOk P w H s.heap
  bare : AllBare s.gens
def CE (outer : List Env) (P : Program) (w : World) (H : Hp) (s : Shared) (Q : VK) (u : Value) (s' : Shared) : Prop :=
  ∃ v H', s'.os = s.os /\ AllBare s'.gens /\ Un (frs outer) [] H H' s.heap s'.heap /\ HOk P w H' s'.heap /\ RelV v u /\ Q v H'
def CR (CX : CXT) (outer : List Env) (P : Program) (w : World) (H : Hp) (s : Shared) (Q : VK) (E : XK) (r : Result) (s' : Shared) : Prop :=
  match r with
  | .ok (.ret u) => CE outer P w H s Q u s'
  | .ok _ => False
  | .error e => CX outer H s E e s'
structure FnOk (P : Program) (w : World) (K : PySem.W.Frag) (mg : Str -> Option Value) (base : Heap) (CX : CXT) (k : Nat) (f : Addr) (fd : FuncData) (ps : List Str) (sp : Sp) (cm : Bool := true) : Prop where
  len : ∀ vs H Q E, sp vs H Q E -> vs.length = ps.length
  run : ∀ (A : Around) (outer : List Env) (s : Shared) (H : Hp) (args : Args) (us : List Value) (vs : List V) (Q : VK) (E : XK), RoomC cm k A -> Env0 P w K mg base A outer s H -> BindsTo s fd args (ps.zip us) -> Vals vs us -> sp vs H Q E ->
    codeAny (model P w) A (.call (.ref f) args) (CR CX outer P w H s Q E) s
theorem FnOk.mono {P : Program} {w : World} {K : PySem.W.Frag} {mg : Str -> Option Value} {base : Heap} {CX : CXT} {j k : Nat} {f : Addr} {fd : FuncData} {ps : List Str} {sp : Sp} (F : FnOk P w K mg base CX j f fd ps sp) (h : j <= k) :
    FnOk P w K mg base CX k f fd ps sp := ⟨F.len, fun A outer s H args us vs Q E hr => F.run A outer s H args us vs Q E (hr.mono h)⟩
theorem FnOk.imp {P : Program} {w : World} {K : PySem.W.Frag} {mg : Str -> Option Value} {base : Heap} {CX : CXT} {k : Nat} {f : Addr} {fd : FuncData} {ps : List Str} {sp sp' : Sp} (F : FnOk P w K mg base CX k f fd ps sp)
    (h : ∀ vs H Q E, sp' vs H Q E -> sp vs H Q E) : FnOk P w K mg base CX k f fd ps sp' :=
  ⟨fun vs H Q E q => F.len vs H Q E (h _ _ _ _ q), fun A outer s H args us vs Q E hr he hb hv hs => F.run A outer s H args us vs Q E hr he hb hv (h _ _ _ _ hs)⟩

theorem Env0.make {P : Program} {w : World} {K : PySem.W.Frag} {mg : Str -> Option Value} {base : Heap} {A : Around} {outer : List Env} {s : Shared} {H : Hp} (e : Env0 P w K mg base A outer s H) (C : Addr) (us : List Value) (kw : List (Str × Value)) :
    Env0 P w K mg base (A.under (.builtin "type.__call__" ⟨.ref C :: us, kw⟩)) outer s H := ⟨by first | exact e.frames | (simpa [Around.under, Code.envs, Code.isFrame, pushEnvs] using e.frames), e.mod, e.bs, e.bsz, e.funs, e.frf, e.hok, e.bare⟩
section
variable {X : Cx} {pins : List (Addr × Obj)} {σ : St} {H : Hp} {s s' : Shared}
theorem Inv.env0 (I : Inv X pins σ H s) : Env0 X.prog X.w X.K X.mg X.base X.A X.stack s H :=
  ⟨I.ok.frames, I.ok.mod, I.bs, Nat.le_trans I.ok.bsz I.sz, I.stack, I.stkFree, I.hok, I.bare⟩
theorem Inv.after {Q : VK} {u : Value} (I : Inv X pins σ H s) (h : CE X.stack X.prog X.w H s Q u s') : EP X pins σ Q u s' := by
  obtain ⟨v, H', os, bare, un, hok, r, q⟩ := h
  obtain ⟨hh, g, d, t, os'⟩ := s'
  obtain rfl : os' = s.os := os
  exact ⟨v, H', I.call (h' := hh) (g' := g) (d' := d) (t' := t) (ch := []) un hok bare (fun b z => absurd z (by simp)), r, q⟩
end

def tCall (sp : Sp) (dvs : List V) (E : XK) (t : TA) : TE := fun σ H Q => t σ H fun vs H1 => sp (vs ++ dvs) H1 Q E
def Binds (K : PySem.W.Frag) (fd : FuncData) (ps : List Str) (ds : List Value) : Prop :=
  ∀ (s : Shared) (us : List Value), K.In s.heap -> (us ++ ds).length = ps.length -> BindsTo s fd ⟨us, []⟩ (ps.zip (us ++ ds))
theorem Binds.all {K : PySem.W.Frag} {fd : FuncData} {ps : List Str} (h : ∀ us : List Value, us.length = ps.length -> bindArgs fd ⟨us, []⟩ = pure (ps.zip us)) : Binds K fd ps [] := fun s us _ hl => by
  rw [List.append_nil] at hl ⊢
  exact .of_eq (h us hl)

def Passes (CX : CXT) (X : Cx) (E : XK) : Prop := ∀ (pins : List (Addr × Obj)) (σ : St) (H : Hp) (s : Shared) (e : Value) (s' : Shared), Inv X pins σ H s -> CX X.stack H s E e s' -> X.xe e s'

section
variable {X : Cx} {CX : CXT} {k : Nat} {f C : Addr} {fd : FuncData} {ps : List Str} {sp : Sp} {dvs : List V} {ds : List Value} {E : XK} {x m : Str} {p pos apos : Pos} {e o : Expr} {es : List Expr} {ta : TE} {t : TA}

theorem run_fn {pins : List (Addr × Obj)} {σ : St} {H : Hp} {s : Shared} {Q : VK} {us : List Value} {vs : List V} (F : FnOk X.prog X.w X.K X.mg X.base CX k f fd ps sp) (hr : Room k X.A) (hb : Binds X.K fd ps ds) (hd : Vals dvs ds) (hx : Passes CX X E)
    (I : Inv X pins σ H s) (r : Vals vs us) (h : sp (vs ++ dvs) H Q E) : wpAny (model X.prog X.w) X.A (call (.ref f) us) (EP X pins σ Q) X.xe s := by
  have r2 : Vals (vs ++ dvs) (us ++ ds) := r.append hd
  have hl : (us ++ ds).length = ps.length := by rw [<- r2.length]; exact F.len _ _ _ _ h
  refine wpAny_call (codeAny_mono (F.run X.A X.stack s H ⟨us, []⟩ (us ++ ds) (vs ++ dvs) Q E hr I.env0 (hb s us I.kIn hl) r2 h) fun r s' hq => ?_)
  cases r with
  | error e => exact hx pins σ H s e s' I hq
  | ok fl =>
    cases fl with
    | ret u => exact I.after hq
    | next => exact False.elim hq
    | brk => exact False.elim hq
    | cont => exact False.elim hq

theorem pe_call (F : FnOk X.prog X.w X.K X.mg X.base CX k f fd ps sp) (hr : Room k X.A) (hg : Gl X x) (hm : X.mg x = some (.ref f)) (hk : PySem.W.keepIn X.K (.ref f) = true) (hb : Binds X.K fd ps ds) (hd : Vals dvs ds) (hx : Passes CX X E)
    (ha : PA X (e :: es) t) (hdb : (x == ("__debug__" : Str)) = false := by decide) (he : starEach (e :: es) X.env = (false, eval e X.env) :: starEach es X.env := by rfl) (hpl : (backTo pos (starEach es X.env)).any (·.1) = false := by rfl) :
    PE X (.Call (.Name x p) (e :: es) [] pos) (tCall sp dvs E t) := by
  intro pins s σ H Q I h
  refine wpAny_Call_Name_kw (ld_glob I hg hm ?_ hdb)
  refine PySem.W.callWith_K (h₀ := X.base) I.ok.mod.kin hk (thn (ha pos pins s σ H _ I h) fun us s1 ⟨vs, H1, I1, r, q⟩ => ⟨I1.kIn, ?_⟩) he hpl
  exact run_fn F hr hb hd hx I1 r q
structure Mk (K : PySem.W.Frag) (C f : Addr) : Prop where
  makes : PySem.W.makesIn K C = true
  init : PySem.W.findIn K (.ref C) "__init__" = some (some (.ref f))
  fn : PySem.W.isFn K (.ref f) = true
  kp : PySem.W.keepIn K (.ref C) = true

end

def PK (X : Cx) (kws : List Keyword) (t : TA) : Prop :=
  ∀ (pos : Pos) (pins : List (Addr × Obj)) (s : Shared) (σ : St) (H : Hp) (Q : List V -> Hp -> Prop), Inv X pins σ H s -> t σ H Q -> wpAny (model X.prog X.w) X.A (evalAll ((backToKw pos (keywordEach kws X.env)).map (·.2))) (AP X pins σ Q) X.xe s
section
variable {X : Cx} {CX : CXT} {k : Nat} {f C : Addr} {fd : FuncData} {ps ks : List Str} {sp : Sp} {E : XK} {x m : Str} {p pos apos kpos : Pos} {e o : Expr} {es : List Expr} {kws : List Keyword} {te ta : TE} {t tk : TA} {nm : Option Str}
theorem pk_nil : PK X [] tNil := fun _ _ _ _ H Q I h => wpAny_evalAll_nil ⟨[], H, I, .nil, h⟩
theorem pk_cons (ha : PE X e te) (hr : PK X kws t) : PK X (⟨nm, e, kpos⟩ :: kws) (tCons te t) := by
  intro pos pins s σ H Q I h
  show wpAny _ _ (evalAll ((do let v <- eval e X.env; standAt pos; pure v) :: (backToKw pos (keywordEach kws X.env)).map (·.2))) _ _ s
  refine wpAny_evalAll_cons (wpAny_bind (thn (ha pins s σ H _ I h) fun u s1 ⟨x, H1, I1, r1, q1⟩ => wpAny_bind (wpAny_standAt (wpAny_pure ?_))))
  exact thn (hr pos pins s1 σ H1 _ I1 q1) fun us s2 ⟨xs, H2, I2, r2, q2⟩ => ⟨x :: xs, H2, I2, .cons r1 r2, q2⟩

structure KBinds (K : PySem.W.Frag) (fd : FuncData) (ps ks : List Str) (g : List Value -> List Value -> List Value) (gV : List V -> List V -> List V) : Prop where
  to : ∀ (s : Shared) (us ws : List Value), K.In s.heap -> (g us ws).length = ps.length -> BindsTo s fd ⟨us, ks.zip ws⟩ (ps.zip (g us ws))
  rel : ∀ {vs : List V} {us : List Value} {zs : List V} {ws : List Value}, Vals vs us -> Vals zs ws -> Vals (gV vs zs) (g us ws)
variable {g : List Value -> List Value -> List Value} {gV : List V -> List V -> List V}
theorem run_fnk {pins : List (Addr × Obj)} {σ : St} {H : Hp} {s : Shared} {Q : VK} {us ws : List Value} {vs zs : List V} (F : FnOk X.prog X.w X.K X.mg X.base CX k f fd ps sp) (hr : Room k X.A) (hb : KBinds X.K fd ps ks g gV) (hx : Passes CX X E)
    (I : Inv X pins σ H s) (r : Vals vs us) (rz : Vals zs ws) (h : sp (gV vs zs) H Q E) : wpAny (model X.prog X.w) X.A (call (.ref f) us (ks.zip ws)) (EP X pins σ Q) X.xe s := by
  have r2 := hb.rel r rz
  have hl : (g us ws).length = ps.length := by rw [<- r2.length]; exact F.len _ _ _ _ h
  refine wpAny_call (codeAny_mono (F.run X.A X.stack s H ⟨us, ks.zip ws⟩ (g us ws) (gV vs zs) Q E hr I.env0 (hb.to s us ws I.kIn hl) r2 h) fun r s' hq => ?_)
  cases r with
  | error e => exact hx pins σ H s e s' I hq
  | ok fl =>
    cases fl with
    | ret u => exact I.after hq
    | next => exact False.elim hq
    | brk => exact False.elim hq
    | cont => exact False.elim hq
end

structure FnScope (N P : List Str) (sc : Scope) : Prop where
  kind : sc.kind = .function
  co : sc.isCoroutine = false
  gen : sc.isGenerator = false
  nd : N.Nodup
  pre : N.take P.length = P
  par : ∀ x ∈ P, sc.names.lookup x = some .local \/ sc.names.lookup x = some .cell
  nofree : ∀ y ∈ sc.names, y.2 ≠ .free

theorem bindL_out {kindOf : Str -> Option NameKind} {x : Str} : ∀ {binds : List (Str × Value)} {m : Str -> Option Value}, (∀ v, (x, v) ∉ binds) -> bindL kindOf binds m x = m x
  | [], _, _ => rfl
  | (n, v) :: r, m, h => by
    unfold bindL
    rw [bindL_out fun w hw => h w (List.mem_cons_of_mem _ hw)]
    split
    . have : x ≠ n := by rintro rfl; exact h v List.mem_cons_self
      simp [this]
    . rfl
theorem bindC_out {kindOf : Str -> Option NameKind} {x : Str} : ∀ {binds : List (Str × Value)} {m : Str -> Option Value}, (∀ v, (x, v) ∉ binds) -> bindC kindOf binds m x = m x
  | [], _, _ => rfl
  | (n, v) :: r, m, h => by
    unfold bindC
    rw [bindC_out fun w hw => h w (List.mem_cons_of_mem _ hw)]
    split
    . rfl
    . have : x ≠ n := by rintro rfl; exact h v List.mem_cons_self
      simp [this]
theorem bindL_get {kindOf : Str -> Option NameKind} {x : Str} {v : Value} : ∀ {P : List Str} {vs : List Value} {i : Nat} {m : Str -> Option Value}, P.Nodup -> P[i]? = some x -> vs[i]? = some v -> kindOf x = some .local ->
    bindL kindOf (P.zip vs) m x = some v
  | [], _, _, _, _, h, _, _ => by simp at h
  | _ :: _, [], _, _, _, _, h, _ => by simp at h
  | p :: P, w :: vs, 0, m, nd, h1, h2, hk => by
    simp at h1 h2; subst h1; subst h2
    show bindL kindOf ((p, w) :: P.zip vs) m p = _
    unfold bindL
    rw [bindL_out fun v hv => (List.nodup_cons.mp nd).1 (List.of_mem_zip hv).1, if_pos hk]
    simp
  | p :: P, w :: vs, i + 1, m, nd, h1, h2, hk => by
    show bindL kindOf ((p, w) :: P.zip vs) m x = _
    unfold bindL
    exact bindL_get (i := i) (List.nodup_cons.mp nd).2 (by simpa using h1) (by simpa using h2) hk
theorem bindC_get {kindOf : Str -> Option NameKind} {x : Str} {v : Value} : ∀ {P : List Str} {vs : List Value} {i : Nat} {m : Str -> Option Value}, P.Nodup -> P[i]? = some x -> vs[i]? = some v -> kindOf x ≠ some .local ->
    bindC kindOf (P.zip vs) m x = some v
  | [], _, _, _, _, h, _, _ => by simp at h
  | _ :: _, [], _, _, _, _, h, _ => by simp at h
  | p :: P, w :: vs, 0, m, nd, h1, h2, hk => by
    simp at h1 h2; subst h1; subst h2
    show bindC kindOf ((p, w) :: P.zip vs) m p = _
    unfold bindC
    rw [bindC_out fun v hv => (List.nodup_cons.mp nd).1 (List.of_mem_zip hv).1, if_neg hk]
    simp
  | p :: P, w :: vs, i + 1, m, nd, h1, h2, hk => by
    show bindC kindOf ((p, w) :: P.zip vs) m x = _
    unfold bindC
    exact bindC_get (i := i) (List.nodup_cons.mp nd).2 (by simpa using h1) (by simpa using h2) hk

def start (N : List Str) (vs : List V) : St := vs.map some ++ List.replicate (N.length - vs.length) none

def cxOf (CX : CXT) (P : Program) (w : World) (K : PySem.W.Frag) (mg : Str -> Option Value) (base : Heap) (N : List Str) (qual : Str) (scope : Scope) (f : Addr) (cd : Value) (A : Around) (outer : List Env) (s : Shared) (H : Hp) (E : XK) (cm : Bool := true) : Cx where
  prog := P
  w := w
  K := K
  mg := mg
  base := base
  A := A.deeper (envOfC qual scope s.heap.objs.size f cd)
  N := N
  s₀ := s
  H₀ := H
  env := envOfC qual scope s.heap.objs.size f cd
  outer := outer
  stack := envOfC qual scope s.heap.objs.size f cd :: outer
  ex := []
  calm := cm
  fn := fun _ => true
  pn := []
  xe := fun e s' => wpAny (model P w) (A.deeper (envOfC qual scope s.heap.objs.size f cd)) (leaving (envOfC qual scope s.heap.objs.size f cd) e) (fun _ s'' => CX outer H s E e s'') (fun e' s'' => CX outer H s E e' s'') s'

theorem cell_has {sc : Scope} {n : Nat} {x : Str} (h : sc.names.lookup x = some .cell) : ∃ c, (cellsFrom n sc.names []).lookup x = some c := by
  have q := PySem.W.cellsFrom_some sc.names n [] (.inl h)
  exact Option.isSome_iff_exists.mp q

theorem inv_start {cm : Bool} {CX : CXT} {P : Program} {w : World} {K : PySem.W.Frag} {mg : Str -> Option Value} {base : Heap} {N ps : List Str} {qual : Str} {scope : Scope} {f : Addr} {cd : Value} {A : Around} {outer : List Env} {s s1 : Shared} {H : Hp} {E : XK} {us : List Value} {vs : List V}
    (S : FnScope N ps scope) (hd : cm = true -> A.handled = none) (e0 : Env0 P w K mg base A outer s H) (hl : vs.length = ps.length) (r : Vals vs us)
    (x : InCallC s s.heap.objs.size (bindL (envOfC qual scope s.heap.objs.size f cd).kindOf (ps.zip us) fun _ => none) (cellsFrom (s.heap.objs.size + 1) scope.names []) (bindC (envOfC qual scope s.heap.objs.size f cd).kindOf (ps.zip us) fun _ => none) s1) :
    Inv (cxOf CX P w K mg base N qual scope f cd A outer s H E cm) [] (start N vs) H s1 := by
  have hpl : ps.length <= N.length := by have := congrArg List.length S.pre; rw [List.length_take] at this; omega
  obtain ⟨h1, tk, rfl, hk⟩ := x.done
  have noA : ∀ b : Addr, b ∉ (cxOf CX P w K mg base N qual scope f cd A outer s H E cm).ex := fun b z => absurd (show b ∈ ([] : List Addr) from z) (by simp)
  refine ⟨⟨e0.mod, S.kind, rfl, rfl, Nat.le_refl _, fun y z c h1 h2 => ?_, fun y hy => ?_, fun y c _ h => ?_, hd, Around.frames_deeper e0.frames, .inr ⟨rfl, rfl⟩, fun b z => absurd z (noA b), e0.bs, e0.bsz, fun b _ _ => noA b, fun b z => absurd z (noA b), e0.funs, e0.frf⟩,
    rfl, e0.bare, Un.kept hk, ⟨_, x.toInCall.ns, fun i y v h1 h2 h3 => ?_⟩, fun y c h => ⟨_, x.cell y c h⟩, e0.hok.fresh (Nat.le_refl _), fun y c h => ?_, fun p hp => absurd (show p ∈ ([] : List (Addr × Obj)) from hp) (by simp), e0.hok.kept hk, ?_⟩
  . exact name_of_addr x.apart (PySem.mem_of_lookup h1) (PySem.mem_of_lookup h2)
  . have hy : scope.names.lookup y = some .cell \/ scope.names.lookup y = some .free := hy
    rcases hy with hy | hy
    . exact cell_has hy
    . exact absurd rfl (S.nofree _ (PySem.mem_of_lookup hy))
  . exact Nat.le_of_lt (x.above y c (PySem.mem_of_lookup h))
  . have hi : i < vs.length := by
      unfold start at h2
      by_cases hi : i < vs.length
      . exact hi
      . rw [List.getElem?_append_right (by simpa using hi)] at h2
        rw [List.getElem?_replicate] at h2
        split at h2 <;> cases h2
    have ha : vs[i]? = some v := by
      unfold start at h2
      rw [List.getElem?_append_left (by simpa using hi), List.getElem?_map] at h2
      cases e : vs[i]? with
      | none => rw [e] at h2; cases h2
      | some a => rw [e] at h2; cases h2; rfl
    obtain ⟨u, hu, rv⟩ := r.get ha
    have hp : ps[i]? = some y := by
      rw [<- S.pre, List.getElem?_take_of_lt (by omega)]; exact h1
    have ndP : ps.Nodup := by rw [<- S.pre]; exact S.nd.sublist (List.take_sublist _ _)
    refine ⟨u, rv, ?_⟩
    rcases S.par y (List.mem_of_getElem? hp) with k | k
    . exact .inl ⟨k, bindL_get ndP hp hu k⟩
    . obtain ⟨c, e⟩ := cell_has (n := s.heap.objs.size + 1) k
      refine .inr ⟨.inl k, c, e, ?_⟩
      have q := x.cell y c e
      rw [bindC_get ndP hp hu (by show scope.names.lookup y ≠ _; rw [k]; decide)] at q
      exact q
  . exact e0.hok.fresh (Nat.le_of_lt (x.above y c (PySem.mem_of_lookup h)))
  . unfold start
    show _ = N.length
    rw [List.length_append, List.length_map, List.length_replicate]
    omega

theorem fn_of {cm : Bool} {CX : CXT} {P : Program} {w : World} {K : PySem.W.Frag} {mg : Str -> Option Value} {base : Heap} {k : Nat} {f : Addr} {name qual : Str} {params : Arguments} {body : List Stmt} {scope : Scope} {dV kV doc pm cdv ct oc : Value} {an od : Option Addr}
    {osl : Array (Option Value)} {N ps : List Str} {sp : Sp} (lk : K.lookup f = some ⟨oc, od, .func (PySem.W.fnOf name qual params body scope dV kV doc pm an cdv ct), osl⟩) (hcd : PySem.W.codeIn K cdv qual = true) (S : FnScope N ps scope)
    (len : ∀ vs H Q E, sp vs H Q E -> vs.length = ps.length)
    (hbody : ∀ (A : Around) (outer : List Env) (s : Shared) (H : Hp) (vs : List V) (Q : VK) (E : XK), RoomC cm k (A.deeper (envOfC qual scope s.heap.objs.size f cdv)) -> sp vs H Q E ->
      ∃ t, PSs (cxOf CX P w K mg base N qual scope f cdv A outer s H E cm) body t /\ t { nx := fun _ H' => Q .non H', rt := Q } (start N vs) H) :
    FnOk P w K mg base CX (k + 1) f (PySem.W.fnOf name qual params body scope dV kV doc pm an cdv ct) ps sp cm := by
  refine ⟨len, fun A outer s H args us vs Q E hr e0 hb r hsp => ?_⟩
  have hl := len _ _ _ _ hsp
  have KX : K.In s.heap := e0.mod.kin.keeps fun b o e => (e0.bs b o e).1
  have lim : s.heap.NoLimit := e0.mod.nolimit.keeps fun b o e => (e0.bs b o e).1
  have hkind : ∀ y ∈ ps.zip us, scope.names.lookup y.1 = some .local \/ (scope.names.lookup y.1 = some .cell /\ ((cellsFrom (s.heap.objs.size + 1) scope.names []).lookup y.1).isSome = true) := fun ⟨n, v⟩ hy => by
    rcases S.par n (List.of_mem_zip hy).1 with q | q
    . exact .inl q
    . exact .inr ⟨q, PySem.W.cellsFrom_some _ _ _ (.inl q)⟩
  refine codeAny_call_function hr.depth (KX _ _ lk) rfl S.co S.gen rfl (PySem.W.codeRec_of KX hcd) (hb _ _ _ _ ?_)
  refine wpAny_newFunctionEnv_cells S.kind hkind fun env he s1 x => ?_
  subst he
  refine ⟨lim.keeps x.toInCall.keep, codeAny_func ?_⟩
  obtain ⟨t, ht, hq⟩ := hbody A outer s H vs Q E (hr.deeper _) hsp
  have I : Inv (cxOf CX P w K mg base N qual scope f cdv A outer s H E cm) [] (start N vs) H s1 := inv_start S hr.hd e0 hl r x
  refine wpAny_mono (ht [] s1 (start N vs) H _ I hq) (fun fl s' hs => ?_) fun e s' hs => hs
  have fin : ∀ {σ' : St} {H' : Hp} {v : V} {u : Value}, Inv (cxOf CX P w K mg base N qual scope f cdv A outer s H E cm) [] σ' H' s' -> RelV v u -> Q v H' -> CE outer P w H s Q u s' :=
    fun {σ' H' v u} J rv q => ⟨v, H', J.os, J.bare, J.base, J.hok, rv, q⟩
  cases fl with
  | ret u =>
    obtain ⟨v, σ', H', J, rv, q⟩ := hs
    exact fin J rv q
  | next =>
    obtain ⟨σ', H', J, q⟩ := hs
    exact fin (v := V.non) (u := Value.none) J rfl q
  | brk =>
    obtain ⟨_, _, _, q⟩ := hs
    exact False.elim q
  | cont =>
    obtain ⟨_, _, _, q⟩ := hs
    exact False.elim q
end L2

namespace L2
open PySem PySem.Spec PyProof.Rows
section
variable {X : Cx} {x : Str} {p pos : Pos} {e : Expr} {es : List Expr} {t : TA} {id T : String} {r : List V -> Hp -> VK -> Prop}

def tCB (r : List V -> Hp -> VK -> Prop) (t : TA) : TE := fun σ H Q => t σ H fun vs H1 => r vs H1 Q
theorem pe_callB (hc : CallR X (.builtin id) r) (hg : Gl X x) (hm : X.mg x = none) (hv : bootBuiltins x = some (.builtin id)) (ha : PA X (e :: es) t) (hn : x ≠ "__name__" := by decide) (hdb : (x == ("__debug__" : Str)) = false := by decide)
    (he : starEach (e :: es) X.env = (false, eval e X.env) :: starEach es X.env := by rfl) (hpl : (backTo pos (starEach es X.env)).any (·.1) = false := by rfl) : PE X (.Call (.Name x p) (e :: es) [] pos) (tCB r t) := by
  intro pins s σ H Q I h
  refine wpAny_Call_Name_kw (ld_blt I hg hm hv ?_ hn hdb)
  exact PyProof.Rows.callWith_builtin1 (thn (ha pos pins s σ H _ I h) fun us s1 ⟨vs, H1, I1, r1, q1⟩ => hc pins s1 σ H1 vs us Q I1 r1 q1) he hpl
theorem pe_callTy (hc : CallR X (.type T) r) (hg : Gl X x) (hm : X.mg x = none) (hv : bootBuiltins x = some (.type T)) (ha : PA X (e :: es) t) (hn : x ≠ "__name__" := by decide) (hdb : (x == ("__debug__" : Str)) = false := by decide)
    (he : starEach (e :: es) X.env = (false, eval e X.env) :: starEach es X.env := by rfl) (hpl : (backTo pos (starEach es X.env)).any (·.1) = false := by rfl) : PE X (.Call (.Name x p) (e :: es) [] pos) (tCB r t) := by
  intro pins s σ H Q I h
  refine wpAny_Call_Name_kw (ld_blt I hg hm hv ?_ hn hdb)
  exact PyProof.Rows.callWith_type1 (thn (ha pos pins s σ H _ I h) fun us s1 ⟨vs, H1, I1, r1, q1⟩ => hc pins s1 σ H1 vs us Q I1 r1 q1) he hpl
end
end L2

namespace HT
open PySem PyProof.Rows

section
open PySem.SeqAt
open PySem.AutoSeq1 (wpAny_loadPart')
open PySem.MeetsSeq PySem.MeetsSeq2 PySem.MeetsSeq3

end

section
variable {prog : Program} {w : World} {A : Around} {E : Value -> Shared -> Prop} {s : Shared}

theorem cat_tup {t b : Addr} {vs ws : List Value} {Q : Value -> Shared -> Prop} (ht : IsTup s.heap t vs.toArray) (hb : IsTup s.heap b ws.toArray) (hv : vs ≠ [])
    (h1 : ws = [] -> Q (.ref t) s) (h2 : ws ≠ [] -> Q (.ref s.heap.objs.size) { s with heap := s.heap.push { cls := .type "tuple", data := .seq (vs ++ ws).toArray } })
    (hsz : vs.length + ws.length <= sizeLine) : wpAny (model prog w) A (binaryOp .Add (.ref t) (.ref b)) Q E s := by
  obtain ⟨⟨cls, dd, data, sl⟩, ho, hc, n, hd⟩ := id ht
  obtain ⟨⟨cls2, dd2, data2, sl2⟩, ho2, hc2, n2, hd2⟩ := id hb
  simp only at hc hd hc2 hd2
  subst hc hd hc2 hd2
  have e : vs.toArray ++ ws.toArray = (vs ++ ws).toArray := by simp
  by_cases hw : ws = []
  . exact concat_meets ⟨_, ho, rfl⟩ ⟨_, ho2, rfl⟩ noFill_tuple_add seq_tuple_add PySem.F.slot_tuple_add PySem.F.entry_tuple_add (PySem.F.args_tuple_add_2 _ _)
      (tuple_addW1 t b vs.toArray ws.toArray n n2 dd dd2 sl sl2 (by simpa using hv) (by simp [hw])) ⟨ho, ho2, h1 hw⟩
  . refine concat_meets ⟨_, ho, rfl⟩ ⟨_, ho2, rfl⟩ noFill_tuple_add seq_tuple_add PySem.F.slot_tuple_add PySem.F.entry_tuple_add (PySem.F.args_tuple_add_2 _ _)
      (tuple_addW2 t b vs.toArray ws.toArray n n2 dd dd2 sl sl2 (by simpa using hv) (by simpa using hw) (by rw [List.size_toArray, List.size_toArray]; exact hsz)) ⟨ho, ho2, ?_⟩
    rw [e]
    exact h2 hw

def sIx (n d : Nat) : Option Int -> Nat
  | none => d
  | some v => if v < 0 then (v + (n : Int)).toNat else min v.toNat n
theorem sIx_none (n d : Nat) : sIx n d none = d := rfl
theorem sIx_nat (n d k : Nat) : sIx n d (some (k : Int)) = min k n := by
  show (if (k : Int) < 0 then ((k : Int) + (n : Int)).toNat else min (k : Int).toNat n) = min k n
  rw [if_neg (by omega), Int.toNat_natCast]
theorem sIx_le (n d : Nat) (hd : d <= n) (o : Option Int) : sIx n d o <= n := by
  cases o with
  | none => exact hd
  | some v =>
    show (if v < 0 then (v + (n : Int)).toNat else min v.toNat n) <= n
    by_cases hv : v < 0
    . rw [if_pos hv]; omega
    . rw [if_neg hv]; exact Nat.min_le_right _ _
theorem clip_eq (v : Int) (n d : Nat) : (if v < 0 then max (v + (n : Int)) 0 else min v (n : Int)) = ((sIx n d (some v) : Nat) : Int) := by
  show (if v < 0 then max (v + (n : Int)) 0 else min v (n : Int)) = (((if v < 0 then (v + (n : Int)).toNat else min v.toNat n) : Nat) : Int)
  by_cases hv : v < 0
  . simp only [if_pos hv]; omega
  . simp only [if_neg hv]; omega
theorem adjust_gen (lo hi : Option Int) (n : Nat) : Builtin.Slice.sliceAdjust lo hi 1 (n : Int) = (((sIx n 0 lo : Nat) : Int), ((sIx n n hi : Nat) : Int)) := by
  have h1 : ¬ ((1 : Int) < 0) := by omega
  unfold Builtin.Slice.sliceAdjust
  simp only [h1, if_false]
  refine Prod.ext ?_ ?_
  . cases lo with
    | none => rfl
    | some v => exact clip_eq v n 0
  . cases hi with
    | none => rfl
    | some v => exact clip_eq v n n
theorem places_gen (i j : Nat) : Builtin.Slice.slicePlaces (i : Int) (j : Int) 1 = j - i := by
  unfold Builtin.Slice.slicePlaces
  have h1 : (1 : Int) > 0 := by omega
  simp only [h1, if_true, Int.ediv_one]
  split <;> omega
theorem slicePart_ {v : Value} {o : Option Int} {Q : Option Int -> Shared -> Prop} (p : IsPart v o) (h : Q o s) : wpAny (model prog w) A (Builtin.Slice.slicePartIndex v) Q E s := by
  cases p with
  | none => exact slicePart_none h
  | int i t => exact slicePart_int h
theorem sliceApplied_gen {sl : Addr} {vl vu : Value} {lo hi : Option Int} {n : Nat} {Q : Int × Int × Nat -> Shared -> Prop} (hs : s.heap.IsSliceOf sl vl vu .none) (pl : IsPart vl lo) (pu : IsPart vu hi)
    (h : Q (((sIx n 0 lo : Nat) : Int), 1, sIx n n hi - sIx n 0 lo) s) : wpAny (model prog w) A (Builtin.Slice.sliceApplied (.ref sl) (pure (n : Int))) Q E s := by
  obtain ⟨os, hos, hcs, hds⟩ := id hs
  unfold Builtin.Slice.sliceApplied Builtin.Slice.sliceFields
  refine wpAny_bind (wpAny_bind (wpAny_field hos hds (x := vl) rfl (wpAny_bind (wpAny_field hos hds (x := vu) rfl (wpAny_bind (wpAny_field hos hds (x := .none) rfl (wpAny_pure ?_)))))))
  refine wpAny_bind (slicePart_none ?_)
  show wpAny _ _ (if ((1 : Int) == 0) = true then _ else _) _ _ s
  rw [if_neg (by decide)]
  refine wpAny_bind (slicePart_ pl (wpAny_bind (slicePart_ pu (wpAny_bind (wpAny_pure ?_)))))
  show wpAny _ _ (match Builtin.Slice.sliceAdjust lo hi 1 (n : Int) with | (lo, hi) => pure (lo, (1 : Int), Builtin.Slice.slicePlaces lo hi 1)) _ _ s
  rw [adjust_gen lo hi n]
  show wpAny _ _ (pure (((sIx n 0 lo : Nat) : Int), (1 : Int), Builtin.Slice.slicePlaces ((sIx n 0 lo : Nat) : Int) ((sIx n n hi : Nat) : Int) 1)) _ _ s
  rw [places_gen]
  exact wpAny_pure h
theorem pick_gen (xs : Array Value) (i k : Nat) : ((List.range k).filterMap fun (m : Nat) => xs[((i : Int) + (m : Int) * 1).toNat]?).toArray = ((xs.toList.drop i).take k).toArray := by
  have e : (fun (m : Nat) => xs[((i : Int) + (m : Int) * 1).toNat]?) = fun m => xs[i + m]? := by
    funext m
    have : ((i : Int) + (m : Int) * 1).toNat = i + m := by omega
    rw [this]
  rw [e]
  have := pick_run xs i k
  rw [List.filterMap_map] at this
  have e2 : ((fun x => xs[x]?) ∘ fun x => i + x) = fun m => xs[i + m]? := rfl
  rw [e2] at this
  rw [this]

theorem getItem_tuple_cut {t sl : Addr} {items : Array Value} {vl vu : Value} {lo hi : Option Int} {Q : Value -> Shared -> Prop} (ht : IsTup s.heap t items) (hs : s.heap.IsSliceOf sl vl vu .none) (pl : IsPart vl lo) (pu : IsPart vu hi)
    (hw : ¬ (sIx items.size 0 lo = 0 /\ sIx items.size items.size hi = items.size))
    (h : Q (.ref s.heap.objs.size) { s with heap := s.heap.push { cls := .type "tuple", data := .seq ((items.toList.drop (sIx items.size 0 lo)).take (sIx items.size items.size hi - sIx items.size 0 lo)).toArray } })
    (hsz : items.size <= sizeLine) : wpAny (model prog w) A (getItem (.ref t) (.ref sl)) Q E s := by
  have htake : sizeOk (.seq ((items.toList.drop (sIx items.size 0 lo)).take (sIx items.size items.size hi - sIx items.size 0 lo)).toArray) := by
    show ((items.toList.drop (sIx items.size 0 lo)).take (sIx items.size items.size hi - sIx items.size 0 lo)).toArray.size <= sizeLine
    rw [List.size_toArray, List.length_take, List.length_drop, Array.length_toList]
    omega
  have hj : sIx items.size items.size hi <= items.size := sIx_le _ _ (Nat.le_refl _) hi
  obtain ⟨os, hos, hcs, hds⟩ := id hs
  have hTs : s.TypeIs (.ref sl) "slice" := ⟨os, hos, hcs⟩
  unfold getItem
  try with_reducible refine wpAny_holding ?_
  first | refine wpAny_bind (wpAny_pure ?_) | skip
  refine wpAny_bind (wpAny_sequenceKey ht.typeIs (by decide) ?_)
  refine wpAny_bind (wpAny_callSpecial?_slot (name := Str.ofString "__getitem__") ht.typeIs PyProof.Rows.slot_tuple_getitem
    (wpAny_call_entry PyProof.Rows.slot_tuple_getitem ht.typeIs entry_tuple_getitem ?_ (args_tuple_getitem _ _)))
  show wpAny _ _ (Builtin.Tuple.tupleItemsOf (.ref t) >>= _) _ _ s
  refine wpAny_bind (tupleItemsOf_ ht ?_)
  refine wpAny_bind (wpAny_typeOf hTs ?_)
  rw [if_pos (by decide)]
  refine wpAny_bind (sliceApplied_gen hs pl pu ?_)
  have hno : ¬ ((((sIx items.size 0 lo : Nat) : Int) == 0 && (1 : Int) == 1 && (sIx items.size items.size hi - sIx items.size 0 lo) == items.size) = true) := by
    intro q
    rw [Bool.and_eq_true, Bool.and_eq_true] at q
    have q1 : ((sIx items.size 0 lo : Nat) : Int) = 0 := eq_of_beq q.1.1
    have q2 : sIx items.size items.size hi - sIx items.size 0 lo = items.size := eq_of_beq q.2
    exact hw ⟨by omega, by omega⟩
  show wpAny _ _ (if (((sIx items.size 0 lo : Nat) : Int) == 0 && (1 : Int) == 1 && (sIx items.size items.size hi - sIx items.size 0 lo) == items.size) = true then _ else _) _ _ s
  rw [if_neg hno, pick_gen]
  first
    | exact wpAny_bind (m := Builtin.Tuple.tupleExact _) (wpAny_newObj_type (wpAny_pure ⟨_, rfl, wpAny_pure h⟩) htake)
    | exact wpAny_bind (m := Builtin.Tuple.tupleExact _) (wpAny_newObj_type (wpAny_bind (wpAny_pure (wpAny_pure ⟨_, rfl, wpAny_pure h⟩))) htake)
    | exact wpAny_bind (wpAny_bind (m := Builtin.Tuple.tupleExact _) (wpAny_newObj_type (wpAny_pure (wpAny_pure ⟨_, rfl, wpAny_pure h⟩)) htake))
    | exact wpAny_bind (wpAny_bind (m := Builtin.Tuple.tupleExact _) (wpAny_newObj_type (wpAny_pure ⟨_, rfl, wpAny_pure h⟩) htake))
end
end HT

namespace L2
open PySem PySem.Spec PyProof.Rows

abbrev TO := St -> Hp -> (Option Int -> Hp -> Prop) -> Prop
def PO (X : Cx) (e : Option Expr) (t : TO) : Prop :=
  ∀ (pins : List (Addr × Obj)) (s : Shared) (σ : St) (H : Hp) (Q : Option Int -> Hp -> Prop), Inv X pins σ H s -> t σ H Q ->
    wpAny (model X.prog X.w) X.A (evalPart e X.env) (fun u s' => ∃ o H', Inv X pins σ H' s' /\ IsPart u o /\ Q o H') X.xe s
def tNoPart : TO := fun _ H Q => Q none H
def tPart (t : TE) : TO := fun σ H Q => t σ H fun x H1 => ∃ i, x = .int i /\ Q (some i) H1

section
variable {X : Cx} {e : Expr} {te : TE} {lo hi : Option Expr} {tl th : TO} {pos p2 : Pos}

theorem po_none : PO X none tNoPart := by
  intro pins s σ H Q I h
  rw [evalPart_none]
  exact wpAny_pure ⟨none, H, I, .none, h⟩
theorem po_some (h : PE X e te) : PO X (some e) (tPart te) := by
  intro pins s σ H Q I hw
  rw [evalPart_some]
  refine thn (h pins s σ H _ I hw) fun u s1 ⟨x, H1, I1, r1, q1⟩ => ?_
  obtain ⟨i, rfl, q⟩ := q1
  obtain ⟨t, rfl⟩ := r1
  exact ⟨some i, H1, I1, .int i t, q⟩

def SlR (X : Cx) (r : V -> Option Int -> Option Int -> Hp -> VK -> Prop) : Prop :=
  ∀ (pins : List (Addr × Obj)) (s : Shared) (σ : St) (H : Hp) (x : V) (v vl vu : Value) (lo hi : Option Int) (sl : Addr) (Q : VK), Inv X pins σ H s -> RelV x v -> s.heap.IsSliceOf sl vl vu .none -> IsPart vl lo -> IsPart vu hi -> r x lo hi H Q ->
    ∃ T id, typeLookup (.type T) "__getitem__" = pure (some (.builtin id)) /\ s.TypeIs v T /\ wpAny (model X.prog X.w) X.A (getItem v (.ref sl)) (EP X pins σ Q) X.xe s
theorem SlR.or {r r' : V -> Option Int -> Option Int -> Hp -> VK -> Prop} (h : SlR X r) (h' : SlR X r') : SlR X (fun x lo hi H Q => r x lo hi H Q \/ r' x lo hi H Q) := by
  intro pins s σ H x v vl vu lo hi sl Q I rx hs pl pu q
  rcases q with q | q
  . exact h pins s σ H x v vl vu lo hi sl Q I rx hs pl pu q
  . exact h' pins s σ H x v vl vu lo hi sl Q I rx hs pl pu q
def tSl (r : V -> Option Int -> Option Int -> Hp -> VK -> Prop) (te : TE) (tl th : TO) : TE := fun σ H Q => te σ H fun x H1 => tl σ H1 fun l H2 => th σ H2 fun u H3 => r x l u H3 Q
theorem pe_slice {r : V -> Option Int -> Option Int -> Hp -> VK -> Prop} (hr : SlR X r) (he : PE X e te) (hl : PO X lo tl) (hu : PO X hi th) : PE X (.Subscript e (.Slice lo hi none p2) pos) (tSl r te tl th) := by
  intro pins s σ H Q I h
  refine Subscript_ (thn (he pins s σ H _ I h) fun v s1 ⟨x, H1, I1, r1, q1⟩ => ?_)
  refine wpAny_Slice (thn (hl pins s1 σ H1 _ I1 q1) fun vl s2 ⟨l, H2, I2, pl, q2⟩ => thn (hu pins s2 σ H2 _ I2 q2) fun vu s3 ⟨u, H3, I3, pu, q3⟩ => ?_)
  rw [evalPart_none]
  refine wpAny_pure ?_
  have I4 : Inv X pins σ H3 { s3 with heap := s3.heap.push { cls := .type "slice", data := .fields #[vl, vu, .none] } } := I3.kept (t' := s3.toks) fun b ob q => Heap.get?_push_of_some _ q
  obtain ⟨T, id, hT, ht, hg⟩ := hr pins { s3 with heap := s3.heap.push { cls := .type "slice", data := .fields #[vl, vu, .none] } } σ H3 x v vl vu l u s3.heap.objs.size Q I4 r1 (Heap.IsSliceOf.new ..) pl pu q3
  show wpAny (model X.prog X.w) X.A (subscriptTail e (.Slice lo hi none p2) v (.ref s3.heap.objs.size)) (EP X pins σ Q) X.xe { s3 with heap := s3.heap.push { cls := .type "slice", data := .fields #[vl, vu, .none] } }
  exact tail_any (ops := [.ref s3.heap.objs.size, v]) ht hT hg (by with_unfolding_all rfl)

def cutV (xs : List V) (lo hi : Option Int) : List V := (xs.drop (HT.sIx xs.length 0 lo)).take (HT.sIx xs.length xs.length hi - HT.sIx xs.length 0 lo)
theorem cutV_length (xs : List V) (lo hi : Option Int) : (cutV xs lo hi).length <= xs.length := by
  unfold cutV
  rw [List.length_take, List.length_drop]
  omega
def rSlT (K : PySem.W.Frag) : V -> Option Int -> Option Int -> Hp -> VK -> Prop := fun x lo hi H Q => ∃ a xs, x = .ref a /\ SqT K H a xs /\
  ¬ (HT.sIx xs.length 0 lo = 0 /\ HT.sIx xs.length xs.length hi = xs.length) /\ ∀ p, H p = none -> Q (.ref p) (upd H p (.tup (cutV xs lo hi)))
theorem sl_tup : SlR X (rSlT X.K) := by
  intro pins s σ H x v vl vu lo hi sl Q I rx hs pl pu h
  obtain ⟨a, xs, rfl, hx, hw, q⟩ := h
  cases rx
  obtain ⟨its, r, ht, hz⟩ := I.tuple hx
  have hlen : its.toArray.size = xs.length := by rw [List.size_toArray]; exact r.length.symm
  refine ⟨"tuple", _, PyProof.Rows.slot_tuple_getitem.lookup, ht.typeIs, ?_⟩
  refine HT.getItem_tuple_cut ht hs pl pu (by rw [hlen]; exact hw) ?_ (by rw [hlen]; exact hz)
  rw [hlen]
  refine ⟨.ref s.heap.objs.size, _, I.laid (t' := s.toks) (o := .tup (cutV xs lo hi)) (fun b ob q => Heap.get?_push_of_some _ q) (Nat.le_refl _) ?_, rfl, q _ (I.hok.fresh (Nat.le_refl _))⟩
  exact ⟨Nat.le_trans (cutV_length xs lo hi) hz, _, (r.drop (HT.sIx xs.length 0 lo)).take (HT.sIx xs.length xs.length hi - HT.sIx xs.length 0 lo), IsTup.new _ _⟩

def rCatT (K : PySem.W.Frag) : R2 := fun x y H Q => ∃ a b xs ys, x = .ref a /\ y = .ref b /\ SqT K H a xs /\ SqT K H b ys /\ xs ≠ [] /\ xs.length + ys.length <= sizeLine /\
  (ys = [] -> Q (.ref a) H) /\ (ys ≠ [] -> ∀ p, H p = none -> Q (.ref p) (upd H p (.tup (xs ++ ys))))
theorem Vals.nil_iff {xs : List V} {us : List Value} (r : Vals xs us) : us = [] ↔ xs = [] := by
  cases r with
  | nil => simp
  | cons _ _ => simp
theorem op_catT : OpR X (binaryOp .Add) (rCatT X.K) := by
  intro pins s σ H x y v u Q I rx ry h
  obtain ⟨a, b, xs, ys, rfl, rfl, ha, hb, hx, hz, q1, q2⟩ := h
  cases rx
  cases ry
  obtain ⟨its, r1, p1, _⟩ := I.tuple ha
  obtain ⟨its2, r2, p2, _⟩ := I.tuple hb
  refine HT.cat_tup p1 p2 (fun z => hx (r1.nil_iff.mp z)) (fun z => ⟨.ref a, H, I, rfl, q1 (r2.nil_iff.mp z)⟩) (fun z => ?_) (by rw [<- r1.length, <- r2.length]; exact hz)
  refine ⟨.ref s.heap.objs.size, _, I.laid (t' := s.toks) (o := .tup (xs ++ ys)) (fun b ob q => Heap.get?_push_of_some _ q) (Nat.le_refl _) ?_, rfl, q2 (fun w => z (r2.nil_iff.mpr w)) _ (I.hok.fresh (Nat.le_refl _))⟩
  exact ⟨by rw [List.length_append]; exact hz, _, r1.append r2, IsTup.new _ _⟩
end
end L2

namespace L2
open PySem PySem.Spec PyProof.Rows

def ixN (n : Nat) (i : Int) : Option Nat := if 0 <= i then (if i < n then some i.toNat else none) else if -(n : Int) <= i then some (i + n).toNat else none
def atI {α : Type} (xs : List α) (i : Int) : Option α := (ixN xs.length i).bind fun j => xs[j]?
theorem ixN_seq {n : Nat} {i : Int} {j : Nat} (h : ixN n i = some j) : seqIndex? i n = some j /\ j < n /\ -(n : Int) <= i /\ i < n := by
  unfold ixN at h
  by_cases h0 : 0 <= i
  . rw [if_pos h0] at h
    by_cases h1 : i < n
    . rw [if_pos h1] at h
      have e : i.toNat = j := Option.some.inj h
      exact ⟨by rw [seqIndex_of h0 h1, e], by omega, by omega, h1⟩
    . rw [if_neg h1] at h; cases h
  . rw [if_neg h0] at h
    by_cases h1 : -(n : Int) <= i
    . rw [if_pos h1] at h
      have e : (i + n).toNat = j := Option.some.inj h
      exact ⟨by rw [seqIndex_neg (by omega) h1, e], by omega, h1, by omega⟩
    . rw [if_neg h1] at h; cases h
theorem atI_get {α : Type} {xs : List α} {i : Int} {v : α} (h : atI xs i = some v) : ∃ j, seqIndex? i xs.length = some j /\ xs[j]? = some v /\ j < xs.length /\ -(xs.length : Int) <= i /\ i < xs.length := by
  unfold atI at h
  cases e : ixN xs.length i with
  | none => rw [e] at h; cases h
  | some j =>
    rw [e] at h
    obtain ⟨h1, h2, h3, h4⟩ := ixN_seq e
    exact ⟨j, h1, h, h2, h3, h4⟩
theorem atI_nat {α : Type} {xs : List α} {j : Nat} {v : α} (h : xs[j]? = some v) : atI xs (j : Int) = some v := by
  have hj : j < xs.length := (List.getElem?_eq_some_iff.mp h).1
  have e : ixN xs.length (j : Int) = some j := by
    unfold ixN
    rw [if_pos (by omega), if_pos (by omega)]; simp
  unfold atI; rw [e]; exact h
theorem atI_last {α : Type} (xs : List α) (v : α) : atI (xs ++ [v]) (-1) = some v := by
  have hl : (xs ++ [v]).length = xs.length + 1 := by simp
  have e : ixN (xs ++ [v]).length (-1) = some xs.length := by
    unfold ixN
    rw [hl, if_neg (by decide), if_pos (by omega)]
    congr 1
    omega
  unfold atI
  rw [e]
  show (xs ++ [v])[xs.length]? = some v
  simp

def PlainIx (b : Expr) : Prop := ∀ o i, subscripted b false o i = operate [o, i] (getItem o i)
def IxR (X : Cx) (r : R2) : Prop :=
  ∀ (value slice : Expr) (pins : List (Addr × Obj)) (s : Shared) (σ : St) (H : Hp) (x y : V) (v u : Value) (Q : VK), Inv X pins σ H s -> RelV x v -> RelV y u -> r x y H Q ->
    subscripted slice false v u = operate [v, u] (getItem v u) -> wpAny (model X.prog X.w) X.A (subscriptTail value slice v u) (EP X pins σ Q) X.xe s
def MtR (X : Cx) (id : String) (r : V -> List V -> Hp -> VK -> Prop) : Prop :=
  ∀ (pins : List (Addr × Obj)) (s : Shared) (σ : St) (H : Hp) (x : V) (xs : List V) (v : Value) (us : List Value) (Q : VK), Inv X pins σ H s -> RelV x v -> Vals xs us -> r x xs H Q ->
    wpAny (model X.prog X.w) X.A (call (.builtin id) (v :: us)) (EP X pins σ Q) X.xe s
section
variable {X : Cx} {a b : Expr} {ta tb : TE} {pos : Pos}
theorem IxR.or {r r' : R2} (h : IxR X r) (h' : IxR X r') : IxR X (fun x y H Q => r x y H Q \/ r' x y H Q) := by
  intro value slice pins s σ H x y v u Q I rx ry q hs
  rcases q with q | q
  . exact h value slice pins s σ H x y v u Q I rx ry q hs
  . exact h' value slice pins s σ H x y v u Q I rx ry q hs
theorem MtR.or {id : String} {r r' : V -> List V -> Hp -> VK -> Prop} (h : MtR X id r) (h' : MtR X id r') : MtR X id (fun x xs H Q => r x xs H Q \/ r' x xs H Q) := by
  intro pins s σ H x xs v us Q I rx rs q
  rcases q with q | q
  . exact h pins s σ H x xs v us Q I rx rs q
  . exact h' pins s σ H x xs v us Q I rx rs q
theorem pe_ix {r : R2} (hr : IxR X r) (ha : PE X a ta) (hb : PE X b tb) (hs : PlainIx b) : PE X (.Subscript a b pos) (tOp r ta tb) := by
  intro pins s σ H Q I h
  exact Subscript_ (binT ha hb I h fun v u s2 x y H2 I2 rx ry q => hr a b pins s2 σ H2 x y v u Q I2 rx ry q (hs _ _))

def rIxL (K : PySem.W.Frag) : R2 := fun x y H Q => ∃ p xs i v, x = .ref p /\ y = .int i /\ SqL K H p xs /\ atI xs i = some v /\ Q v H
def rIxT (K : PySem.W.Frag) : R2 := fun x y H Q => ∃ p xs i v, x = .ref p /\ y = .int i /\ SqT K H p xs /\ atI xs i = some v /\ Q v H
def rIxS : R2 := fun x y H Q => ∃ z i c, x = .str z /\ y = .int i /\ z.length <= sizeLine /\ atI z.cps.toList i = some c /\ Q (.str ⟨#[c]⟩) H
theorem ix_list : IxR X (rIxL X.K) := by
  intro value slice pins s σ H x y v u Q I rx ry h hs
  obtain ⟨p, xs, i, z, rfl, rfl, hq, he, q⟩ := h
  cases rx
  obtain ⟨t, rfl⟩ := ry
  obtain ⟨its, r, pl, hz⟩ := I.list hq
  obtain ⟨j, h1, h2, h3, h4, h5⟩ := atI_get he
  obtain ⟨w, ew, rw'⟩ := r.get h2
  have hl := r.length
  have hn := line63
  have fin : EP X pins σ Q w s := ⟨z, H, I, rw', q⟩
  by_cases h0 : 0 <= i
  . have hj : i.toNat = j := by
      rw [seqIndex_of h0 h5] at h1
      exact Option.some.inj h1
    exact item_listR pl.isList h0 (by omega) (by rw [hj]; simpa using ew) fin hs
  . have hj : (i + (its.toArray.size : Int)).toNat = j := by
      rw [seqIndex_neg (by omega) h4] at h1
      rw [List.size_toArray, <- hl]
      exact Option.some.inj h1
    exact subscriptTail_builtinR (x := w) pl.isList.typeIs slot_list_getitem.lookup
      (wpAny_getItem_list_neg (Q := fun r s' => r = w /\ EP X pins σ Q r s') pl.isList (by omega) (by rw [List.size_toArray] <;> omega) (by omega) (by rw [hj]; simpa using ew) ⟨rfl, fin⟩) hs
theorem ix_tup : IxR X (rIxT X.K) := by
  intro value slice pins s σ H x y v u Q I rx ry h hs
  obtain ⟨p, xs, i, z, rfl, rfl, hq, he, q⟩ := h
  cases rx
  obtain ⟨t, rfl⟩ := ry
  obtain ⟨its, r, pl, hz⟩ := I.tuple hq
  obtain ⟨j, h1, h2, h3, h4, h5⟩ := atI_get he
  obtain ⟨w, ew, rw'⟩ := r.get h2
  have hl := r.length
  have hn := line63
  have fin : EP X pins σ Q w s := ⟨z, H, I, rw', q⟩
  exact subscriptTail_builtinR (x := w) pl.typeIs slot_tuple_getitem.lookup
    (getItem_tuple (j := j) (Q := fun r s' => r = w /\ EP X pins σ Q r s') pl (by omega) (by omega) (by rw [List.size_toArray, <- hl]; exact h1) (by simpa using ew) ⟨rfl, fin⟩) hs
theorem ix_str : IxR X rIxS := by
  intro value slice pins s σ H x y v u Q I rx ry h hs
  obtain ⟨z, i, c, rfl, rfl, hz, he, q⟩ := h
  obtain ⟨t, rfl⟩ := rx
  obtain ⟨t', rfl⟩ := ry
  obtain ⟨j, h1, h2, h3, h4, h5⟩ := atI_get he
  have hl : z.cps.toList.length = z.length := by simp [Str.length]
  rw [hl] at h1 h4 h5
  have hn := line63
  exact tail_any (typeIs_str s z t) slot_str_getitem.lookup (getItem_str (c := c) (by
    have e1 : decide (i < -(2 ^ 63 : Int)) = false := decide_eq_false (by omega)
    have e2 : decide (i ≥ 2 ^ 63) = false := decide_eq_false (by omega)
    rw [e1, e2, Bool.or_false]) (by rw [h1]; simpa using h2) ⟨.str ⟨#[c]⟩, H, I.tok _, ⟨_, rfl⟩, q⟩) hs
def rIx (K : PySem.W.Frag) : R2 := fun x y H Q => rIxL K x y H Q \/ rIxT K x y H Q \/ rIxS x y H Q
theorem ix_seq : IxR X (rIx X.K) := ix_list.or (ix_tup.or ix_str)

theorem mapSeq_set (its : List Value) (n j : Nat) (u : Value) : Obj.mapSeq (·.setIfInBounds j u) { cls := .type "list", data := .seq its.toArray n } = { cls := .type "list", data := .seq (its.set j u).toArray n } := by
  simp [Obj.mapSeq]
theorem Inv.lst {pins : List (Addr × Obj)} {σ : St} {H : Hp} {s : Shared} {p : Addr} {xs : List V} (I : Inv X pins σ H s) (h : H p = some (.lst xs)) :
    ∃ (its : List Value) (n : Nat), Vals xs its /\ s.heap.get? p = some { cls := .type "list", data := .seq its.toArray n } /\ xs.length <= sizeLine := by
  obtain ⟨z, its, n, r, e⟩ := I.hok p _ h
  exact ⟨its, n, r, e, z⟩
theorem Inv.lstUpd {pins : List (Addr × Obj)} {σ : St} {H : Hp} {s : Shared} {p : Addr} {xs ys : List V} {its its' : List Value} {n n' : Nat} {f : Obj -> Obj} (I : Inv X pins σ H s) (h : H p = some (.lst xs))
    (ho : s.heap.get? p = some { cls := .type "list", data := .seq its.toArray n }) (hf : f { cls := .type "list", data := .seq its.toArray n } = { cls := .type "list", data := .seq its'.toArray n' }) (r : Vals ys its') (hz : ys.length <= sizeLine) (t : Nat) :
    Inv X pins σ (upd H p (.lst ys)) { s with heap := s.heap.update p f, toks := t } := by
  have e : (s.heap.update p f).get? p = some { cls := .type "list", data := .seq its'.toArray n' } := by
    rw [Heap.get?_update_self f ho (by rw [hf] <;> rfl), hf]
  refine I.write (x := p) (e := p) (by rw [h]; trivial) (.inl rfl) (fun b u hb q => (Heap.get?_update_other _ _ (Ne.symm hb)).trans q) ⟨_, e⟩ ?_
  exact ⟨hz, its', n', r, e⟩
def rSetL : V -> V -> V -> Hp -> (Hp -> Prop) -> Prop := fun o i v H Q => ∃ p xs k j, o = .ref p /\ i = .int k /\ H p = some (.lst xs) /\ ixN xs.length k = some j /\ Q (upd H p (.lst (xs.set j v)))
theorem set_list : PSet X rSetL := by
  intro pins s σ H o i v ov iv u Q I ro ri rv h
  obtain ⟨p, xs, k, j, rfl, rfl, hp, hj, q⟩ := h
  cases ro
  obtain ⟨t, rfl⟩ := ri
  obtain ⟨its, n, r, ho, hz⟩ := I.lst hp
  obtain ⟨h1, h2, h3, h4⟩ := ixN_seq hj
  have hl := r.length
  have hn := line63
  have I' : Inv X pins σ (upd H p (.lst (xs.set j v))) { s with heap := s.heap.update p (Obj.mapSeq (·.setIfInBounds j u)) } :=
    I.lstUpd hp ho (mapSeq_set its n j u) (r.set rv j) (by rw [List.length_set]; exact hz) s.toks
  by_cases h0 : 0 <= k
  . have hk : k.toNat = j := by
      rw [seqIndex_of h0 h4] at h1
      exact Option.some.inj h1
    exact PySem.W.ki_setAt ho h0 (by omega) (by rw [List.size_toArray, <- hl]; exact h4) (by rw [hk]; exact ⟨_, I', q⟩)
  . have hk : (k + (its.toArray.size : Int)).toNat = j := by
      rw [seqIndex_neg (by omega) h3] at h1
      rw [List.size_toArray, <- hl]
      exact Option.some.inj h1
    exact PySem.W.ki_setBack ho (by omega) (by rw [List.size_toArray, <- hl]; exact h3) (by omega) (by rw [hk]; exact ⟨_, I', q⟩)

theorem slice_bounds (lo hi : Option Int) (n : Nat) : (sliceBounds lo hi none n).1 = ((HT.sIx n 0 lo : Nat) : Int) /\ (sliceBounds lo hi none n).2.1 = ((HT.sIx n n hi : Nat) : Int) /\ (sliceBounds lo hi none n).2.2 = 1 := by
  refine ⟨?_, ?_, rfl⟩
  . cases lo with
    | none => simp [sliceBounds, HT.sIx]
    | some i =>
      simp only [sliceBounds, HT.sIx, Option.getD_none, show (1 : Int) > 0 by decide, if_true]
      by_cases h : i < 0
      . simp only [h, if_true] <;> omega
      . simp only [h, if_false] <;> omega
  . cases hi with
    | none => simp [sliceBounds, HT.sIx]
    | some i =>
      simp only [sliceBounds, HT.sIx, Option.getD_none, show (1 : Int) > 0 by decide, if_true]
      by_cases h : i < 0
      . simp only [h, if_true] <;> omega
      . simp only [h, if_false] <;> omega
theorem slicePick_cut (its : List Value) (lo hi : Option Int) : slicePick its.toArray lo hi none = ((its.drop (HT.sIx its.length 0 lo)).take (HT.sIx its.length its.length hi - HT.sIx its.length 0 lo)).toArray := by
  obtain ⟨h1, h2, h3⟩ := slice_bounds lo hi its.toArray.size
  unfold slicePick
  rw [h1, h2, h3]
  simp only [sliceRange_one, pick_run, List.size_toArray] <;> rfl
def rSlL (K : PySem.W.Frag) : V -> Option Int -> Option Int -> Hp -> VK -> Prop := fun x lo hi H Q => ∃ a xs, x = .ref a /\ SqL K H a xs /\ ∀ p, H p = none -> Q (.ref p) (upd H p (.lst (cutV xs lo hi)))
theorem sl_list : SlR X (rSlL X.K) := by
  intro pins s σ H x v vl vu lo hi sl Q I rx hs pl pu h
  obtain ⟨a, xs, rfl, hx, q⟩ := h
  cases rx
  obtain ⟨its, r, ht, hz⟩ := I.list hx
  have hlen := r.length
  refine ⟨"list", _, slot_list_getitem.lookup, ht.isList.typeIs, ?_⟩
  refine wpAny_getItem_list_slice ht.isList hs pl pu .none (by simp) ?_ (by rw [List.size_toArray] <;> omega)
  rw [slicePick_cut, <- hlen]
  refine ⟨.ref s.heap.objs.size, _, I.laid (t' := s.toks) (o := .lst (cutV xs lo hi)) (fun b ob q => Heap.get?_push_of_some _ q) (Nat.le_refl _) ?_, rfl, q _ (I.hok.fresh (Nat.le_refl _))⟩
  exact ⟨Nat.le_trans (cutV_length xs lo hi) hz, _, 0, (r.drop (HT.sIx xs.length 0 lo)).take (HT.sIx xs.length xs.length hi - HT.sIx xs.length 0 lo), Heap.get?_push_size _ rfl⟩

def flatV : V -> Bool
  | .non => true
  | .bl _ => true
  | .int _ => true
  | .str _ => true
  | _ => false
def eqV : V -> V -> Bool
  | .non, .non => true
  | .bl a, .bl b => a == b
  | .bl a, .int b => (if a then 1 else 0) == b
  | .int a, .bl b => a == (if b then 1 else 0)
  | .int a, .int b => a == b
  | .str a, .str b => a == b
  | _, _ => false
theorem eqAt_V {A : Around} {s : Shared} {y x : V} {u v : Value} (ry : RelV y u) (rx : RelV x v) (fy : flatV y = true) (fx : flatV x = true) : SeqAt.EqAt A s u v (eqV y x) := by
  cases y with
  | non =>
    cases ry
    cases x with
    | non => cases rx; exact SeqAt.EqAt.same _
    | bl b => cases rx; exact SeqAt.EqAt.none_bool b
    | int b => obtain ⟨t, rfl⟩ := rx; exact SeqAt.EqAt.none_int b t
    | str b => obtain ⟨t, rfl⟩ := rx; exact SeqAt.EqAt.none_str b t
    | _ => exact absurd (show false = true from fx) Bool.false_ne_true
  | bl a =>
    cases ry
    cases x with
    | non => cases rx; exact SeqAt.EqAt.bool_none a
    | bl b => cases rx; exact SeqAt.EqAt.bool_bool a b
    | int b => obtain ⟨t, rfl⟩ := rx; exact SeqAt.EqAt.bool_int a b t
    | str b => obtain ⟨t, rfl⟩ := rx; exact SeqAt.EqAt.bool_str a b t
    | _ => exact absurd (show false = true from fx) Bool.false_ne_true
  | int a =>
    obtain ⟨t', rfl⟩ := ry
    cases x with
    | non => cases rx; exact SeqAt.EqAt.int_none a t'
    | bl b => cases rx; exact SeqAt.EqAt.int_bool a t' b
    | int b => obtain ⟨t, rfl⟩ := rx; exact SeqAt.EqAt.int_int a t' b t
    | str b => obtain ⟨t, rfl⟩ := rx; exact SeqAt.EqAt.int_str a t' b t
    | _ => exact absurd (show false = true from fx) Bool.false_ne_true
  | str a =>
    obtain ⟨t', rfl⟩ := ry
    cases x with
    | non => cases rx; exact SeqAt.EqAt.str_none a t'
    | bl b => cases rx; exact SeqAt.EqAt.str_bool a t' b
    | int b => obtain ⟨t, rfl⟩ := rx; exact SeqAt.EqAt.str_int a t' b t
    | str b => obtain ⟨t, rfl⟩ := rx; exact SeqAt.EqAt.str_str a t' b t
    | _ => exact absurd (show false = true from fx) Bool.false_ne_true
  | _ => exact absurd (show false = true from fy) Bool.false_ne_true
def eqU (x : V) (u : Value) : Bool := match u with
  | .none => eqV .non x
  | .bool b => eqV (.bl b) x
  | .int i _ => eqV (.int i) x
  | .str z _ => eqV (.str z) x
  | _ => false
theorem eqU_of {x y : V} {u : Value} (r : RelV y u) (f : flatV y = true) : eqU x u = eqV y x := by
  cases y with
  | non => cases r; rfl
  | bl b => cases r; rfl
  | int i => obtain ⟨t, rfl⟩ := r; rfl
  | str z => obtain ⟨t, rfl⟩ := r; rfl
  | _ => exact absurd (show false = true from f) Bool.false_ne_true
theorem any_eqU {x : V} : ∀ {xs : List V} {us : List Value}, Vals xs us -> xs.all flatV = true -> us.any (eqU x) = xs.any fun y => eqV y x
  | _, _, .nil, _ => rfl
  | y :: xs, u :: us, .cons r t, f => by
    rw [List.all_cons, Bool.and_eq_true] at f
    rw [List.any_cons, List.any_cons, eqU_of r f.1, any_eqU t f.2]
theorem mem_eqAt {A : Around} {s : Shared} {x : V} {v : Value} (rx : RelV x v) (fx : flatV x = true) : ∀ {xs : List V} {us : List Value}, Vals xs us -> xs.all flatV = true -> ∀ u ∈ us, SeqAt.EqAt A s u v (eqU x u)
  | _, _, .nil, _ => fun u hu => by cases hu
  | y :: xs, u :: us, .cons r t, f => fun u' hu => by
    rw [List.all_cons, Bool.and_eq_true] at f
    rcases List.mem_cons.mp hu with rfl | hu
    . rw [eqU_of r f.1]; exact eqAt_V r rx f.1 fx
    . exact mem_eqAt rx fx t f.2 u' hu
def inV (x : V) (xs : List V) : Bool := xs.any fun y => eqV y x
def rIn (K : PySem.W.Frag) (neg : Bool) : R2 := fun x y H Q => ∃ p xs, y = .ref p /\ (SqL K H p xs \/ SqT K H p xs) /\ flatV x = true /\ xs.all flatV = true /\ Q (.bl (if neg then !inV x xs else inV x xs)) H
theorem op_in_seq : OpR X (compareOp .In) (rIn X.K false) := by
  intro pins s σ H x y v u Q I rx ry h
  obtain ⟨p, xs, rfl, hq, fx, fs, q⟩ := h
  cases ry
  rcases hq with hq | hq
  . obtain ⟨its, r, pl, hz⟩ := I.list hq
    refine SeqAt.in_listAt (eqU x) pl.isList (fun w hw => mem_eqAt rx fx r fs w (by simpa using hw)) ⟨.bl _, H, I, rfl, ?_⟩
    rw [show its.toArray.any (eqU x) = its.any (eqU x) by simp, any_eqU r fs]
    exact q
  . obtain ⟨its, r, pl, hz⟩ := I.tuple hq
    refine SeqAt.in_tupleAt (eqU x) pl (fun w hw => mem_eqAt rx fx r fs w (by simpa using hw)) ⟨.bl _, H, I, rfl, ?_⟩
    rw [show its.toArray.any (eqU x) = its.any (eqU x) by simp, any_eqU r fs]
    exact q
theorem call_len_seq : CallR X (.builtin "len") (fun xs H Q => ∃ p ys, xs = [.ref p] /\ (SqL X.K H p ys \/ SqT X.K H p ys) /\ Q (.int ys.length) H) := by
  intro pins s σ H xs us Q I r h
  obtain ⟨p, ys, rfl, hq, q⟩ := h
  obtain ⟨u, rfl, rx⟩ := vals1 r
  cases rx
  have hn := line63
  rcases hq with hq | hq
  . obtain ⟨its, r', pl, hz⟩ := I.list hq
    have hlen := r'.length
    exact Calls.call_len_list pl.isList (by simp only [List.size_toArray] <;> omega) ⟨.int ys.length, H, I.tok _, ⟨s.toks + 1, by rw [List.size_toArray, hlen]⟩, q⟩
  . obtain ⟨its, r', pl, hz⟩ := I.tuple hq
    have hlen := r'.length
    exact len_tuple pl (by simp only [List.size_toArray] <;> omega) ⟨.int ys.length, H, I.tok _, ⟨s.toks + 1, by rw [List.size_toArray, hlen]⟩, q⟩
theorem call_len_str : CallR X (.builtin "len") (fun xs H Q => ∃ z, xs = [.str z] /\ z.length <= sizeLine /\ Q (.int z.length) H) := by
  intro pins s σ H xs us Q I r h
  obtain ⟨z, rfl, hz, q⟩ := h
  obtain ⟨u, rfl, t, rfl⟩ := vals1 r
  have hn := line63
  exact len_str (by omega) ⟨.int z.length, H, I.tok _, ⟨_, rfl⟩, q⟩
theorem CallR.or {f : Value} {r r' : List V -> Hp -> VK -> Prop} (h : CallR X f r) (h' : CallR X f r') : CallR X f (fun xs H Q => r xs H Q \/ r' xs H Q) := by
  intro pins s σ H xs us Q I rs q
  rcases q with q | q
  . exact h pins s σ H xs us Q I rs q
  . exact h' pins s σ H xs us Q I rs q
theorem call_list_of : CallR X (.type "list") (fun xs H Q => ∃ p ys, xs = [.ref p] /\ (SqL X.K H p ys \/ SqT X.K H p ys) /\ ∀ l, H l = none -> Q (.ref l) (upd H l (.lst ys))) := by
  intro pins s σ H xs us Q I r h
  obtain ⟨p, ys, rfl, hq, q⟩ := h
  obtain ⟨u, rfl, rx⟩ := vals1 r
  cases rx
  have fin : ∀ (its : List Value), Vals ys its -> ys.length <= sizeLine -> ∀ (h' : Heap) (c' : Nat), (∀ b o', s.heap.get? b = some o' -> h'.get? b = some o') ->
      h'.get? s.heap.objs.size = some { cls := .type "list", dict := none, data := .seq its.toArray c', slots := #[] } -> EP X pins σ Q (.ref s.heap.objs.size) { s with heap := h' } := fun its r' hz h' c' kp e =>
    ⟨.ref s.heap.objs.size, _, I.laid (t' := s.toks) kp (Nat.le_refl _) (show ObjOk X.prog X.w _ h' _ (.lst ys) from ⟨hz, its, c', r', e⟩), rfl, q _ (I.hok.fresh (Nat.le_refl _))⟩
  rcases hq with hq | hq
  . obtain ⟨its, r', pl, hz⟩ := I.list hq
    have hlen := r'.length
    obtain ⟨o, ho, hc, n, hd⟩ := pl.isList
    exact call_list_seq p (.inl rfl) ho hc hd (fun h' c' kp e => fin its r' hz h' c' kp e) (by simp only [List.size_toArray] <;> omega)
  . obtain ⟨its, r', pl, hz⟩ := I.tuple hq
    have hlen := r'.length
    obtain ⟨o, ho, hc, n, hd⟩ := pl
    exact call_list_seq p (.inr rfl) ho hc hd (fun h' c' kp e => fin its r' hz h' c' kp e) (by simp only [List.size_toArray] <;> omega)
def tyV (K : PySem.W.Frag) (T : String) (x : V) (H : Hp) : Prop := match x with
  | .str _ => T = "str"
  | .int _ => T = "int"
  | .ref p => (T = "list" /\ ∃ xs, SqL K H p xs) \/ (T = "tuple" /\ ∃ o, K.lookup p = some o /\ o.cls = .type "tuple" /\ o.dict = none) \/
      (T = "dict" /\ ((∃ kvs, H p = some (.dK kvs)) \/ ∃ kvs, H p = some (.dT kvs))) \/ (T = "set" /\ ∃ S n, H p = some (.set S n))
  | _ => False
theorem tyV_is {pins : List (Addr × Obj)} {σ : St} {H : Hp} {s : Shared} {T : String} {x : V} {v : Value} (I : Inv X pins σ H s) (r : RelV x v) (ty : tyV X.K T x H) :
    s.TypeIs v T /\ ∀ a, v = .ref a -> ∃ ob, s.heap.get? a = some ob /\ ob.dict = none := by
  cases x with
  | str z =>
    obtain ⟨t, rfl⟩ := r
    cases (show T = "str" from ty)
    exact ⟨typeIs_str s z t, fun _ e => nomatch e⟩
  | int i =>
    obtain ⟨t, rfl⟩ := r
    cases (show T = "int" from ty)
    exact ⟨typeIs_int s i t, fun _ e => nomatch e⟩
  | ref p =>
    cases r
    rcases ty with ⟨rfl, xs, hq⟩ | ⟨rfl, o, hk, hc, hd⟩ | ⟨rfl, hk⟩ | ⟨rfl, S, n, hk⟩
    . obtain ⟨its, _, pl, _⟩ := I.list hq
      refine ⟨pl.isList.typeIs, fun a e => ?_⟩
      cases e
      obtain ⟨o, n, e, c, hd, _⟩ := pl
      exact ⟨o, e, hd⟩
    . refine ⟨⟨o, I.kIn p o hk, hc⟩, fun a e => ?_⟩
      cases e
      exact ⟨o, I.kIn _ o hk, hd⟩
    . have z : ∃ o, s.heap.get? p = some o /\ o.ExactDict := by
        rcases hk with ⟨kvs, hk⟩ | ⟨kvs, hk⟩
        . obtain ⟨_, _, _, _, o, _, _, e, ex, _⟩ := I.hok p _ hk
          exact ⟨o, e, ex⟩
        . obtain ⟨_, _, _, _, o, _, _, e, ex, _⟩ := I.hok p _ hk
          exact ⟨o, e, ex⟩
      obtain ⟨o, e, ex⟩ := z
      refine ⟨⟨o, e, ex.1⟩, fun a e2 => ?_⟩
      cases e2
      exact ⟨o, e, ex.2.1⟩
    . obtain ⟨o, _, _, _, e, ex, _⟩ := I.hok p _ hk
      refine ⟨⟨o, e, ex.1⟩, fun a e2 => ?_⟩
      cases e2
      exact ⟨o, e, ex.2.1⟩
  | _ => exact False.elim ty
def tBM0 (K : PySem.W.Frag) (T : String) (r : V -> List V -> Hp -> VK -> Prop) (to : TE) : TE := fun σ H Q => to σ H fun x H1 => tyV K T x H1 /\ r x [] H1 Q
def tBM (K : PySem.W.Frag) (T : String) (r : V -> List V -> Hp -> VK -> Prop) (to : TE) (t : TA) : TE := fun σ H Q => to σ H fun x H1 => tyV K T x H1 /\ t σ H1 fun xs H2 => r x xs H2 Q
variable {o e : Expr} {es : List Expr} {to : TE} {t : TA} {name : Str} {apos cpos : Pos} {T id : String} {r : V -> List V -> Hp -> VK -> Prop}
theorem pe_bm0 (pa : PlainAttrs T) (slot : Slot T name id) (hty : typeOf (.builtin id) = pure (.type "method_descriptor")) (hm : MtR X id r) (ho : PE X o to)
    (hbase : attributeBase o name X.env (eval o X.env) = eval o X.env := by rfl) (hline : (apos.endLine == cpos.line) = true := by rfl) : PE X (.Call (.Attribute o name apos) [] [] cpos) (tBM0 X.K T r to) := by
  intro pins s σ H Q I h
  refine wpAny_Call_method0_late hbase hline (thn (ho pins s σ H _ I h) fun v s1 ⟨x, H1, I1, r1, ty, q1⟩ => ?_)
  obtain ⟨h1, h2⟩ := tyV_is I1 r1 ty
  exact ⟨T, id, pa, slot, hty, h1, h2, Calls.callWith_builtin rfl (PySem.evalArgs_none (hm pins s1 σ H1 x [] v [] Q I1 r1 .nil q1))⟩
theorem pe_bm (pa : PlainAttrs T) (slot : Slot T name id) (hty : typeOf (.builtin id) = pure (.type "method_descriptor")) (hm : MtR X id r) (ho : PE X o to) (ha : PA X (e :: es) t)
    (hbase : attributeBase o name X.env (eval o X.env) = eval o X.env := by rfl)
    (hfew : ((backTo cpos (starEach (e :: es) X.env)).all (fun x => !x.1) && (backToKw cpos (keywordEach [] X.env)).all (fun x => x.1.isSome)
      && decide ((e :: es).length + ([] : List Keyword).length + (if ([] : List Keyword).isEmpty then 0 else 1) < 30)) = true := by rfl)
    (hline : (apos.endLine == cpos.line) = true := by rfl) (hs : starEach (e :: es) X.env = (false, eval e X.env) :: starEach es X.env := by rfl) (hplain : (backTo cpos (starEach es X.env)).any (·.1) = false := by rfl) :
    PE X (.Call (.Attribute o name apos) (e :: es) [] cpos) (tBM X.K T r to t) := by
  intro pins s σ H Q I h
  refine wpAny_Call_method_late hbase hfew hline rfl (thn (ho pins s σ H _ I h) fun v s1 ⟨x, H1, I1, r1, ty, q1⟩ => ?_)
  obtain ⟨h1, h2⟩ := tyV_is I1 r1 ty
  refine ⟨T, id, pa, slot, hty, h1, h2, ?_⟩
  have hA := ha cpos pins s1 σ H1 _ I1 q1
  rw [hs] at hA ⊢
  refine Calls.callWith_builtin (by show (false || (backTo cpos (starEach es X.env)).any (·.1)) = false; rw [hplain] <;> rfl) (Calls.evalArgs_plain ?_)
  exact thn hA fun us s2 ⟨vs, H2, I2, r2, q2⟩ => hm pins s2 σ H2 x vs v us Q I2 r1 r2 q2
end
end L2

namespace L2
open PySem PySem.Spec PyProof.Rows

def MtM (X : Cx) (id : String) (r : V -> List V -> Hp -> VK -> Prop) : Prop :=
  ∀ (pins : List (Addr × Obj)) (s : Shared) (σ : St) (H : Hp) (x : V) (xs : List V) (v : Value) (us : List Value) (Q : VK), Inv X pins σ H s -> RelV x v -> Vals xs us -> r x xs H Q ->
    wpAny (model X.prog X.w) X.A (call (.builtin id) (v :: us)) (EP X pins σ Q) X.xe s

theorem Vals.one : ∀ {x : V} {us : List Value}, Vals [x] us -> ∃ u, us = [u] /\ RelV x u
  | _, _, .cons r .nil => ⟨_, rfl, r⟩
theorem Vals.zero : ∀ {us : List Value}, Vals [] us -> us = []
  | _, .nil => rfl
theorem Vals.dropLast {xs : List V} {us : List Value} (h : Vals xs us) : Vals xs.dropLast us.dropLast := by
  induction h with
  | nil => exact .nil
  | cons r t ih =>
    cases t with
    | nil => exact .nil
    | cons q t' => exact .cons r ih
theorem Vals.eraseIdx : ∀ {xs : List V} {us : List Value} (i : Nat), Vals xs us -> Vals (xs.eraseIdx i) (us.eraseIdx i)
  | _, _, _, .nil => .nil
  | _, _, 0, .cons _ t => t
  | _, _, i + 1, .cons r t => .cons r (Vals.eraseIdx i t)
theorem Vals.rep {xs : List V} {us : List Value} (h : Vals xs us) : ∀ k : Nat, Vals (List.replicate k xs).flatten (List.replicate k us).flatten
  | 0 => .nil
  | k + 1 => by
    rw [List.replicate_succ, List.replicate_succ, List.flatten_cons, List.flatten_cons]
    exact Vals.append h (Vals.rep h k)
theorem erase_last {α : Type} (l : List α) : l.eraseIdx (l.length - 1) = l.dropLast := by
  induction l with
  | nil => rfl
  | cons a r ih =>
    cases r with
    | nil => rfl
    | cons b r =>
      have e : (a :: b :: r).length - 1 = ((b :: r).length - 1) + 1 := by
        have h1 : (a :: b :: r).length = r.length + 2 := rfl
        have h2 : (b :: r).length = r.length + 1 := rfl
        omega
      rw [e, List.eraseIdx_cons_succ, ih]
      all_goals rfl
theorem len_erase {α : Type} : ∀ (l : List α) (i : Nat), (l.eraseIdx i).length <= l.length
  | [], _ => Nat.le_refl _
  | _ :: _, 0 => Nat.le_succ _
  | _ :: r, i + 1 => Nat.succ_le_succ (len_erase r i)
theorem foldl_rep (its : List Value) : ∀ (k : Nat) (acc : List Value),
    List.foldl (fun x1 x2 => x1 ++ x2) acc.toArray (List.replicate k its.toArray) = (acc ++ (List.replicate k its).flatten).toArray
  | 0, acc => by simp
  | k + 1, acc => by
    have e : acc.toArray ++ its.toArray = (acc ++ its).toArray := by simp
    have e2 : (acc ++ its) ++ (List.replicate k its).flatten = acc ++ (List.replicate (k + 1) its).flatten := by
      rw [List.replicate_succ, List.flatten_cons, List.append_assoc]
    rw [<- e2, <- foldl_rep its k (acc ++ its), <- e, List.replicate_succ, List.foldl_cons]

section
variable {X : Cx} {pins : List (Addr × Obj)} {σ : St} {H : Hp} {s : Shared} {l b : Addr} {xs ys zs : List V}

theorem Inv.lset {its its' : List Value} {n : Nat} {f : Array Value -> Array Value} {t' : Nat} (I : Inv X pins σ H s) (hH : H l = some (.lst xs))
    (e : s.heap.get? l = some { cls := .type "list", data := .seq its.toArray n }) (hf : f its.toArray = its'.toArray) (hv : Vals ys its') (hz : ys.length <= sizeLine) :
    Inv X pins σ (upd H l (.lst ys)) { s with heap := s.heap.update l (Obj.mapSeq f), toks := t' } := by
  have q := PySem.IsL.update e f
  rw [hf] at q
  refine I.write (x := l) (e := l) (by rw [hH]; exact trivial) (.inl rfl) (fun b' u hb hu => (Heap.get?_update_other s.heap (Obj.mapSeq f) (Ne.symm hb)).trans hu) ⟨_, q⟩ ?_
  exact ⟨hz, its', _, hv, q⟩
theorem Inv.lnew {its : List Value} {t' : Nat} (I : Inv X pins σ H s) (hv : Vals ys its) (hz : ys.length <= sizeLine) :
    Inv X pins σ (upd H s.heap.objs.size (.lst ys)) { s with heap := s.heap.push { cls := .type "list", data := .seq its.toArray }, toks := t' } :=
  I.laid (fun _ _ q => Heap.get?_push_of_some _ q) (Nat.le_refl _) ⟨hz, its, 0, hv, Heap.get?_push_size _ rfl⟩
theorem Inv.fresh (I : Inv X pins σ H s) : H s.heap.objs.size = none := I.hok.fresh (Nat.le_refl _)
theorem Inv.lstM (I : Inv X pins σ H s) (hH : H l = some (.lst xs)) : xs.length <= sizeLine /\ ∃ (its : List Value) (n : Nat), Vals xs its /\ xs.length = its.length /\ s.heap.get? l = some { cls := .type "list", data := .seq its.toArray n } := by
  obtain ⟨z, its, n, r, e⟩ := I.hok l _ hH
  exact ⟨z, its, n, r, r.length, e⟩

theorem notLongL {n : Nat} (h : n <= sizeLine) : Builtin.List.listTooLong n = false := by
  unfold Builtin.List.listTooLong
  exact decide_eq_false (by omega)
end

section
variable {X : Cx}

def rAppend : V -> List V -> Hp -> VK -> Prop := fun x vs H Q => ∃ l xs y, x = .ref l /\ vs = [y] /\ H l = some (.lst xs) /\ xs.length < sizeLine /\ Q .non (upd H l (.lst (xs ++ [y])))
theorem mt_append : MtM X "list.append" rAppend := by
  intro pins s σ H x vs v us Q I rx rv h
  obtain ⟨l, xs, y, rfl, rfl, hH, hz, q⟩ := h
  cases rx
  obtain ⟨u, rfl, ru⟩ := rv.one
  obtain ⟨z, its, n, r, hl, e⟩ := I.lstM hH
  refine call_meets F.slot_list_append ⟨_, e, rfl⟩ F.entry_list_append (F.args_list_append_2 _ _) (PySem.list_append l its.toArray n u (by rw [List.size_toArray]; omega)) ⟨e, ?_⟩
  refine ⟨.non, _, I.lset (its' := its ++ [u]) hH e (by simp) (r.append (.cons ru .nil)) ?_, rfl, q⟩
  rw [List.length_append, List.length_singleton]
  omega

def rPop : V -> List V -> Hp -> VK -> Prop := fun x vs H Q => ∃ l xs y, x = .ref l /\ vs = [] /\ H l = some (.lst xs) /\ xs[xs.length - 1]? = some y /\ Q y (upd H l (.lst xs.dropLast))
theorem mt_pop : MtM X "list.pop" rPop := by
  intro pins s σ H x vs v us Q I rx rv h
  obtain ⟨l, xs, y, rfl, rfl, hH, hy, q⟩ := h
  cases rx
  have hus := rv.zero
  subst hus
  obtain ⟨z, its, n, r, hl, e⟩ := I.lstM hH
  obtain ⟨u, hu, ru⟩ := r.get hy
  have hy' : its.toArray[its.toArray.size - 1]? = some u := by
    show its.toArray[its.length - 1]? = some u
    rw [<- Array.getElem?_toList, <- hl]
    exact hu
  refine call_meets F.slot_list_pop ⟨_, e, rfl⟩ F.entry_list_pop (F.args_list_pop_1 _) (MeetsSeq.list_pop_last l its.toArray n u hy' (by rw [List.size_toArray]; omega)) ⟨e, ?_⟩
  refine ⟨y, _, I.lset (its' := its.dropLast) hH e ?_ r.dropLast ?_, ru, q⟩
  . show its.toArray.eraseIdxIfInBounds (its.toArray.size - 1) = its.dropLast.toArray
    rw [List.size_toArray, List.eraseIdxIfInBounds_toArray, erase_last]
  . rw [List.length_dropLast]
    omega

def rPopAt : V -> List V -> Hp -> VK -> Prop := fun x vs H Q => ∃ l xs i k y, x = .ref l /\ vs = [.int i] /\ H l = some (.lst xs) /\ -(2 ^ 63) <= i /\ i < 2 ^ 63 /\ seqIndex? i xs.length = some k /\ xs[k]? = some y /\ Q y (upd H l (.lst (xs.eraseIdx k)))
theorem mt_popAt : MtM X "list.pop" rPopAt := by
  intro pins s σ H x vs v us Q I rx rv h
  obtain ⟨l, xs, i, k, y, rfl, rfl, hH, h1, h2, hk, hy, q⟩ := h
  cases rx
  obtain ⟨u, rfl, ru⟩ := rv.one
  obtain ⟨t, rfl⟩ := ru
  obtain ⟨z, its, n, r, hl, e⟩ := I.lstM hH
  obtain ⟨w, hw, rw'⟩ := r.get hy
  refine call_meets F.slot_list_pop ⟨_, e, rfl⟩ F.entry_list_pop (F.args_list_pop_2 _ _)
    (MeetsSeq.list_pop_at l its.toArray n i t k w (fitsIndex_both h1 h2) (by rw [List.size_toArray, <- hl]; exact hk) (by rw [<- Array.getElem?_toList]; exact hw) (by rw [List.size_toArray]; omega)) ⟨e, ?_⟩
  refine ⟨y, _, I.lset (its' := its.eraseIdx k) hH e ?_ (r.eraseIdx k) ?_, rw', q⟩
  . show its.toArray.eraseIdxIfInBounds k = (its.eraseIdx k).toArray
    rw [List.eraseIdxIfInBounds_toArray]
  . have := len_erase xs k
    omega

def rCat : R2 := fun x y H Q => ∃ l b xs zs, x = .ref l /\ y = .ref b /\ H l = some (.lst xs) /\ H b = some (.lst zs) /\ xs.length + zs.length <= sizeLine /\ ∀ p, H p = none -> Q (.ref p) (upd H p (.lst (xs ++ zs)))
theorem op_cat : OpR X (binaryOp .Add) rCat := by
  intro pins s σ H x y v u Q I rx ry h
  obtain ⟨l, b, xs, zs, rfl, rfl, hH, hB, hz, q⟩ := h
  cases rx
  cases ry
  obtain ⟨z, its, n, r, hl, e⟩ := I.lstM hH
  obtain ⟨z2, its2, n2, r2, hl2, e2⟩ := I.lstM hB
  refine PySem.P.add_list e e2 ?_ (by rw [List.size_toArray, List.size_toArray]; omega)
  have ea : its.toArray ++ its2.toArray = (its ++ its2).toArray := by simp
  rw [ea]
  exact ⟨.ref _, _, I.lnew (t' := s.toks) (r.append r2) (by rw [List.length_append]; omega), rfl, q _ I.fresh⟩
def rRep : R2 := fun x y H Q => ∃ l k xs, x = .ref l /\ y = .int k /\ H l = some (.lst xs) /\ -(2 ^ 63) <= k /\ k < 2 ^ 63 /\ xs.length * k.toNat <= sizeLine /\
  ∀ p, H p = none -> Q (.ref p) (upd H p (.lst (List.replicate k.toNat xs).flatten))
theorem len_rep {α : Type} (xs : List α) (k : Nat) : (List.replicate k xs).flatten.length = k * xs.length := by
  induction k with
  | zero => simp
  | succ k ih => rw [List.replicate_succ, List.flatten_cons, List.length_append, ih, Nat.succ_mul, Nat.add_comm]
theorem op_rep : OpR X (binaryOp .Mult) rRep := by
  intro pins s σ H x y v u Q I rx ry h
  obtain ⟨l, k, xs, rfl, rfl, hH, h1, h2, hz, q⟩ := h
  cases rx
  obtain ⟨t, rfl⟩ := ry
  obtain ⟨z, its, n, r, hl, e⟩ := I.lstM hH
  have hlen : its.toArray.size * k.toNat <= sizeLine := by rw [List.size_toArray, <- hl]; exact hz
  have hcap : ¬ its.toArray.size * k.toNat > (2 ^ 63 - 1) / 8 := by
    have : (sizeLine : Nat) <= (2 ^ 63 - 1) / 8 := by decide
    omega
  have hfit : ¬ (!Builtin.List.listFitsIndex k) = true := by
    rw [fitsIndex_both h1 h2]
    exact Bool.false_ne_true
  have hlong : ¬ Builtin.List.listTooLong (its.toArray.size * k.toNat) = true := by
    rw [notLongL hlen]
    exact Bool.false_ne_true
  have hnew : List.foldl (fun x1 x2 => x1 ++ x2) #[] (List.replicate (if its.toArray.isEmpty = true then 0 else k.toNat) its.toArray) = (List.replicate k.toNat its).flatten.toArray := by
    have f0 : ∀ m : Nat, List.foldl (fun x1 x2 => x1 ++ x2) #[] (List.replicate m its.toArray) = (List.replicate m its).flatten.toArray := fun m => by
      have := foldl_rep its m []
      rw [List.nil_append] at this
      exact this
    rw [f0]
    cases its with
    | nil => simp
    | cons a r' => rw [if_neg (by simp)]
  refine wpAny_binaryOp_repeat_ref (T := "list") (U := "int") (by decide) ⟨_, e, rfl⟩ (fun s' => typeIs_int s' k t) noFill_list_mul F.fills_int_mul F.slot_int_rmul repeat_list F.slot_int_index.lookup
    (call_meets F.slot_int_rmul (typeIs_int s k t) F.entry_int_rmul (F.args_int_rmul_2 _ _) (int___rmul___int_list k t l its.toArray n)
      ⟨e, rfl, ⟨_, e, rfl⟩, call_meets F.slot_list_mul ⟨_, e, rfl⟩ F.entry_list_mul (F.args_list_mul_2 _ _) (AutoListH.list___mul___list_int_3 l its.toArray n k t hfit hcap hlong) ⟨e, ?_⟩⟩)
  rw [hnew]
  exact ⟨.ref _, _, I.lnew (t' := s.toks) (r.rep k.toNat) (by rw [len_rep, Nat.mul_comm]; exact hz), rfl, q _ I.fresh⟩

end

section
variable {prog : Program} {w : World} {A : Around} {E : Value -> Shared -> Prop} {s : Shared}
end

section
variable {X : Cx}
end
end L2


namespace L2
open PySem PySem.Spec PyProof.Rows

section
variable {κ : Type} [DecidableEq κ]
end


section
variable {P : Program} {w : World} {H : Hp} {h : Heap} {a : Addr}
end

section
variable {X : Cx} {pins : List (Addr × Obj)} {σ : St} {H : Hp} {s : Shared} {a : Addr} {y v : V} {u r : Value} {o : Option V} {A : Around} {E : Value -> Shared -> Prop}

end

section
variable {X : Cx} {pins : List (Addr × Obj)} {σ : St} {H : Hp} {s : Shared} {a : Addr} {kvs : List (Key × V)} {k : Key} {u : Value} {A : Around} {E : Value -> Shared -> Prop}
end


section
variable {X : Cx} {o i e value : Expr} {pos pos' tpos : Pos} {td ty tv : TE}
end


section
variable {X : Cx} {pos : Pos}
end

structure M1 (X : Cx) (o : Expr) (m : Str) (apos : Pos) (e : Expr) (cpos : Pos) : Prop where
  base : attributeBase o m X.env (eval o X.env) = eval o X.env
  few : ((backTo cpos (starEach [e] X.env)).all (fun x => !x.1) && (backToKw cpos (keywordEach [] X.env)).all (fun x => x.1.isSome)
    && decide (([e] : List Expr).length + ([] : List Keyword).length + (if ([] : List Keyword).isEmpty then 0 else 1) < 30)) = true
  line : (apos.endLine == cpos.line) = true
  trees : backTo cpos (starEach [e] X.env) = [(false, eval e X.env)]
section
variable {X : Cx} {pins : List (Addr × Obj)} {σ : St} {H : Hp} {s : Shared} {a : Addr} {y d : V} {u r : Value} {o : Option V} {A : Around} {E : Value -> Shared -> Prop}
end

section
variable {X : Cx} {o e f : Expr} {apos cpos : Pos} {td ty tx : TE}
end

section
variable {X : Cx} {pins : List (Addr × Obj)} {σ : St} {H : Hp} {s : Shared} {a : Addr} {kvs : List (Key × V)} {A : Around} {E : Value -> Shared -> Prop}
end


section
variable {X : Cx} {pins : List (Addr × Obj)} {σ : St} {H : Hp} {s : Shared} {a : Addr} {y : V} {u : Value} {A : Around} {E : Value -> Shared -> Prop}
end
end L2


namespace Att
open PySem PySem.W PySem.Calls PyProof.Rows

theorem ints_of_wellAll {P : Params} {h : Heap} : ∀ (ns : List Int) (vs : List Value), WellAll P h vs (ns.map WData.int) -> IntsAre vs ns := by
  intro ns
  induction ns with
  | nil =>
    intro vs w
    rw [List.map_nil] at w
    cases w
    exact .nil
  | cons n ns ih =>
    intro vs w
    rw [List.map_cons] at w
    cases w with
    | cons a b =>
      cases a
      exact .cons _ _ (ih _ b)

theorem script_of {l : OpenLaw} {n : Nat} (hn : l.most = some n) {P : Params} {h : Heap} {args : List WData} {vals : List Value}
    (hpre : l.row.toRowW.claim.pre args = true) (hwl : WellAll P h vals args) :
    ∃ a vs ns, vals = [Value.ref a] /\ args = [WData.list (ns.map WData.int)] /\ h.get? a = some { cls := .type "list", data := .seq vs.toArray } /\ IntsAre vs ns /\ ns.length <= n := by
  have hsh : WShape.hasAll [] args [.list .int] = true := (pre_splitW hpre).1
  have hc : l.pre.holds [] { args := args } = true := (pre_splitW hpre).2
  obtain ⟨d, r, rfl, h1, h2⟩ := hasAllW_cons hsh
  obtain rfl := hasAllW_nil h2
  obtain ⟨xs, rfl, h3⟩ := hasW_list h1
  obtain ⟨ns, rfl⟩ := items_int h3
  have hlen : ns.length <= n := by
    unfold OpenLaw.pre at hc
    have h4 : (WTm.not (.lt (.lit (.int (n : Int))) (.len (.arg 0)))).holds [] { args := [.list (ns.map .int)] } = true := by
      have h4 := (holds_andW hc).1
      rw [hn] at h4
      exact h4
    have h5 := condW_of h4 (w_not (w_lt w_lit (w_len_list (w_arg rfl))))
    rw [List.length_map] at h5
    refine Nat.le_of_not_lt fun q => ?_
    have q' : (n : Int) < ((ns.length : Nat) : Int) := by omega
    first
      | (rw [decide_eq_true q'] at h5; exact absurd h5 (by decide))
      | (simp at h5; omega)
  cases hwl with
  | cons w1 w2 =>
    cases w2
    cases w1 with
    | list ho hall => exact ⟨_, _, ns, rfl, rfl, ho, ints_of_wellAll ns _ hall, hlen⟩

theorem post_true (l : OpenLaw) (args : List WData) : l.row.toRowW.claim.post args (.bool true) args = true :=
  postW_of (r := l.row.toRowW) (X := (true == true))
    (show WShape.has [] (.bool true) .bool = true by first | rfl | decide | simp [WShape.has, WShape.arms, WShape.armsAll])
    (show (WTm.eq .res (.lit (.bool true))).value [] { args := args, res := some (.bool true), after := args } = some (.bool (true == true)) from w_eq_bool (w_res rfl) w_lit) rfl

theorem attach_call {l : OpenLaw} {n : Nat} {q : Program} {loose : List Str} {XP : (Str -> Option Value) -> Heap -> Prop} {YP : World -> Heap -> Prop} {d : DefRec}
    (hn : l.most = some n) (hdf : d.params.defaults = [])
    (call : ∀ (w : World) (s₀ s₁ : Shared) (mg mb : Str -> Option Value) (fa : Addr) (o : Obj) (pm cd doc : Value) (a : Addr) (vs : List Value) (ns : List Int),
      Ground q loose [] XP w s₀ mg mb s₁.heap -> YP w s₁.heap ->
      s₁.heap.get? fa = some o -> o.data = .func (docDef d.name d.params d.body d.scope pm cd doc) -> s₁.heap.CodeRec cd d.name -> mg d.name = some (.ref fa) ->
      s₁.heap.get? a = some { cls := .type "list", data := .seq vs.toArray } -> IntsAre vs ns -> ns.length <= n -> s₁.gens = #[] ->
      codeAny (model l.prog w) callerA (.call (.ref fa) ⟨[.ref a], []⟩) (fun r s' => r = .ok (.ret (.bool true)) /\ OldK s₁.heap s'.heap /\ s'.os = s₁.os /\ AllBare s'.gens) s₁) :
    WalkO q loose XP YP l.row.toRowW d [] (fun f vs => PySem.call f vs) := by
  intro w s₀ s₁ mg mb G Y fa o pm cd doc dV kV ho hd hcd hD hmg hg args vals as hpre hlay hrd hwl hlo
  obtain rfl : dV = .none := Dflts.none hD hdf
  obtain rfl : kV = .none := Dflts.noKw hD
  obtain ⟨a, vs, ns, rfl, rfl, hobj, hints, hlen⟩ := script_of hn hpre hwl
  refine enter_call (codeAny_mono (call w s₀ s₁ mg mb fa o pm cd doc a vs ns G Y ho (fd_plain hd) hcd hmg hobj hints hlen hg) fun r s' hq => ?_)
  obtain ⟨rfl, h2, h3, h4⟩ := hq
  exact ⟨.inl ⟨.bool true, .bool true, [], rfl, fun _ => rfl, .bool true, post_true l _, fun _ => ⟨List.Pairwise.nil, fun _ hm => (nomatch hm)⟩⟩, h2, h3, h4⟩

section
variable {prog : Program} {w : World} {A : Around} {E : Value -> Shared -> Prop} {s : Shared} {K : Frag}

end
end Att

namespace L2
open PySem PySem.Spec PyProof.Rows

theorem vals_ints : ∀ {vs : List Value} {ns : List Int}, IntsAre vs ns -> Vals (ns.map V.int) vs
  | _, _, .nil => .nil
  | _, _, .cons n t h => .cons ⟨t, rfl⟩ (vals_ints h)

def Only (H : Hp) : Prop := ∀ b, H b = none \/ ∃ o xs, H b = some (.frz o (.lst xs))

theorem law_call {P : Program} {w : World} {K : PySem.W.Frag} {mg mb : Str -> Option Value} {CX : CXT} {k : Nat} {fa a : Addr} {fd : FuncData} {x : Str} {sp : Sp} {s₁ : Shared} {vs : List Value} {ns : List Int}
    (KX : K.In s₁.heap) (hns : s₁.heap.Ns mainGlobals mg) (hb : s₁.heap.Ns builtinsNs mb) (hbb : ∀ x : Str, x ≠ "__name__" -> mb x = bootBuiltins x) (hlim : s₁.heap.NoLimit) (hg : s₁.gens = #[])
    (ha : s₁.heap.get? a = some { cls := .type "list", data := .seq vs.toArray }) (hi : IntsAre vs ns) (hl : ns.length <= sizeLine) (hr : Room k callerA)
    (F : ∀ base : Heap, K.In base -> base.Ns mainGlobals mg -> FnOk P w K mg base CX k fa fd [x] sp) (hbind : ∀ (s : Shared) (u : Value), BindsTo s fd ⟨[u], []⟩ [(x, u)])
    (hsp : ∀ H : Hp, Only H -> SqL K H a (ns.map V.int) -> sp [.ref a] H (fun v _ => v = .bl true) fun _ _ _ => False)
    (hCX : ∀ H e s', CX [] H s₁ (fun _ _ _ => False) e s' -> False) :
    codeAny (model P w) callerA (.call (.ref fa) ⟨[.ref a], []⟩) (fun r s' => r = .ok (.ret (.bool true)) /\ OldK s₁.heap s'.heap /\ s'.os = s₁.os /\ AllBare s'.gens) s₁ := by
  have rv := vals_ints hi
  have lenV := hi.length
  -- from an abstract heap in which nothing but the script may be tracked
  have core : ∀ H : Hp, Only H -> SqL K H a (ns.map V.int) -> HOk P w H s₁.heap -> (∀ b, H b ≠ none -> b = a) -> (H a ≠ none -> K.lookup a = none) ->
      codeAny (model P w) callerA (.call (.ref fa) ⟨[.ref a], []⟩) (fun r s' => r = .ok (.ret (.bool true)) /\ OldK s₁.heap s'.heap /\ s'.os = s₁.os /\ AllBare s'.gens) s₁ := by
    intro H hO hS hok hA hK
    have base_of : ∀ {b : Addr} {o : Obj}, s₁.heap.get? b = some o -> H b = none -> (hidT s₁.heap H).get? b = some o := fun e n => hidT_get e n
    have noA : ∀ {b : Addr} {o : Obj} {es : Array DictEntry} {ep : Nat}, s₁.heap.get? b = some o -> o.data = .dict es ep -> H b = none := fun {b o es ep} e d => by
      cases q : H b with
      | none => rfl
      | some u =>
        have e' : b = a := hA b (by rw [q]; simp)
        subst e'
        rw [ha] at e; cases e
        have d' : Data.seq vs.toArray _ = Data.dict es ep := d
        cases d'
    have nsK : ∀ {b : Addr} {m : Str -> Option Value}, s₁.heap.Ns b m -> (hidT s₁.heap H).Ns b m := fun {b m} ⟨o, es, ep, e, d, r⟩ => ⟨o, es, ep, base_of e (noA e d), d, r⟩
    have hKb : K.In (hidT s₁.heap H) := fun b o e => base_of (KX b o e) (by
      cases q : H b with
      | none => rfl
      | some u =>
        have e' : b = a := hA b (by rw [q]; simp)
        subst e'
        rw [hK (by rw [q]; simp)] at e; cases e)
    have hM : Mod K mg (hidT s₁.heap H) := ⟨hKb, nsK hns, ⟨mb, nsK hb, hbb⟩, let ⟨mc, h1, h2⟩ := hlim; ⟨mc, nsK h1, h2⟩⟩
    have e0 : Env0 P w K mg (hidT s₁.heap H) callerA [] s₁ H := ⟨rfl, hM, fun b o e => of_hidT e, Nat.le_of_eq (hidT_size _ _), trivial, fun b hb => absurd (show b ∈ ([] : List Addr) from hb) (by simp), hok, .of_eq hg⟩
    refine codeAny_mono ((F _ hKb (nsK hns)).run callerA [] s₁ H ⟨[.ref a], []⟩ [.ref a] [.ref a] _ _ hr e0 (hbind s₁ (.ref a)) (.cons rfl .nil) (hsp H hO hS)) fun r s' h => ?_
    cases r with
    | error e => exact (hCX H e s' h).elim
    | ok fl =>
      cases fl with
      | next => exact False.elim h
      | brk => exact False.elim h
      | cont => exact False.elim h
      | ret u =>
        obtain ⟨v, H', os, bare, un, hok', r', q⟩ := h
        have q' : v = .bl true := q
        subst q'
        obtain rfl : u = Value.bool true := r'
        refine ⟨rfl, OldK.of_keep fun b o e => ?_, os, bare⟩
        cases q : H b with
        | none => exact un.keep b o e q (by intro z; exact absurd (show b ∈ ([] : List Addr) from z) (by simp)) (by simp)
        | some u =>
          rcases hO b with z | ⟨ob, xs, z⟩
          . rw [q] at z; cases z
          . have z2 := un.frzs b ob _ z
            obtain ⟨e1, _⟩ := hok b _ z
            obtain ⟨e2, _⟩ := hok' b _ z2
            rw [e] at e1; cases e1
            exact e2
  cases hk : K.lookup a with
  | some o =>
    -- the script is one of the module's own objects
    have e := KX a o hk
    rw [ha] at e
    cases e
    refine core (fun _ => none) (fun _ => .inl rfl) (.inr ⟨_, vs.toArray, _, hk, rfl, rfl, rfl, by rw [List.size_toArray, lenV]; exact hl, by simpa using rv⟩) (fun b u z => by have z' : (none : Option HO) = some u := z; cases z') (fun b z => absurd rfl z) fun z => absurd rfl z
  | none =>
    refine core (fun b => if b = a then some (.frz { cls := .type "list", data := .seq vs.toArray } (.lst (ns.map V.int))) else none) (fun b => ?_) (.inl (.inr ⟨{ cls := .type "list", data := .seq vs.toArray }, if_pos rfl⟩)) (fun b u z => ?_) (fun b z => ?_) fun _ => hk
    . by_cases hb : b = a
      . exact .inr ⟨_, _, if_pos hb⟩
      . exact .inl (if_neg hb)
    . by_cases hb : b = a
      . have z' := (if_pos hb).symm.trans z
        cases z'
        subst hb
        exact ⟨ha, by rw [List.length_map]; exact hl, vs, _, rv, ha⟩
      . have z' := (if_neg hb).symm.trans z
        cases z'
    . by_cases hb : b = a
      . exact hb
      . exact absurd (if_neg hb) z
end L2

namespace L2
open PySem PySem.Spec PyProof.Rows

theorem walk_of {l : PySem.W.OpenLaw} {n k : Nat} {q : Program} {loose : List Str} {XP : (Str -> Option Value) -> Heap -> Prop} {YP : World -> Heap -> Prop} {d : DefRec} {K : Params -> PySem.W.Frag} {CX : World -> CXT} {sp : World -> Sp} {x : Str}
    (hn : l.most = some n) (hn2 : n <= sizeLine) (hdf : d.params.defaults = []) (hr : Room k callerA)
    (hY : ∀ (w : World) (h : Heap), YP w h -> (K w.params).In h)
    (F : ∀ (w : World) (mg : Str -> Option Value) (fa : Addr) (h : Heap), (K w.params).In h -> h.Ns mainGlobals mg -> mg d.name = some (.ref fa) ->
      ∃ fd : FuncData, (∀ (s : Shared) (u : Value), BindsTo s fd ⟨[u], []⟩ [(x, u)]) /\
        ∀ base : Heap, (K w.params).In base -> base.Ns mainGlobals mg -> FnOk l.prog w (K w.params) mg base (CX w) k fa fd [x] (sp w))
    (hsp : ∀ (w : World) (H : Hp) (a : Addr) (ns : List Int), ns.length <= n -> Only H -> SqL (K w.params) H a (ns.map V.int) -> sp w [.ref a] H (fun v _ => v = .bl true) fun _ _ _ => False)
    (hCX : ∀ (w : World) (H : Hp) (s : Shared) (e : Value) (s' : Shared), CX w [] H s (fun _ _ _ => False) e s' -> False) :
    PySem.W.WalkO q loose XP YP l.row.toRowW d [] (fun f vs => PySem.call f vs) := by
  refine Att.attach_call hn hdf fun w s₀ s₁ mg mb fa o pm cd doc a vs ns G Y ho hd hcd hmg hobj hints hlen hg => ?_
  have KX := hY w _ Y
  obtain ⟨fd, hb, hF⟩ := F w mg fa _ KX G.T.g hmg
  exact law_call KX G.T.g G.T.b G.T.builtins G.T.nolimit hg hobj hints (Nat.le_trans hlen hn2) hr hF hb (fun H hO hS => hsp w H a ns hlen hO hS) fun H e s' => hCX w H s₁ e s'
end L2

namespace L2
open PySem PySem.Spec PyProof.Rows

def inClass (s : Stmt) (j : Nat) : Stmt := match s with
  | .ClassDef _ _ _ body _ _ _ _ _ _ _ => body.getD j (.Pass ⟨0, 0, 0, 0⟩)
  | _ => .Pass ⟨0, 0, 0, 0⟩
def defArgs (s : Stmt) : Arguments := match s with
  | .FunctionDef _ a _ _ _ _ _ _ _ _ => a
  | _ => { posonlyargs := [], args := [], vararg := none, kwonlyargs := [], kw_defaults := [], kwarg := none, defaults := [] }
def defBody (s : Stmt) : List Stmt := match s with
  | .FunctionDef _ _ b _ _ _ _ _ _ _ => b
  | _ => []
def defScope (s : Stmt) : Scope := match s with
  | .FunctionDef _ _ _ _ _ _ sc _ _ _ => sc
  | _ => { kind := .function, names := [], isGenerator := false, isCoroutine := false }

abbrev CX0 : CXT := fun _ _ _ _ _ _ => False
abbrev E0 : XK := fun _ _ _ => False
theorem pass0 {X : Cx} : Passes CX0 X E0 := fun _ _ _ _ _ _ _ h => h.elim

structure Fun (K : PySem.W.Frag) (x qual : Str) (st : Stmt) (f : Addr) (fd : FuncData) : Prop where
  ex : ∃ (oc : Value) (od : Option Addr) (kV : Value × Value) (doc pm : Value) (an : Option Addr) (cdv ct : Value) (osl : Array (Option Value)),
    fd = PySem.W.fnOf x qual (defArgs st) (defBody st) (defScope st) kV.1 kV.2 doc pm an cdv ct /\ K.lookup f = some ⟨oc, od, .func fd, osl⟩ /\ PySem.W.codeIn K cdv qual = true
  kp : PySem.W.keepIn K (.ref f) = true
section
variable {P : Program} {w : World} {K : PySem.W.Frag} {mg : Str -> Option Value} {base : Heap}
theorem Fun.ok {x qual : Str} {st : Stmt} {f : Addr} {fd : FuncData} {N ps : List Str} {k : Nat} {sp : Sp} (F : Fun K x qual st f fd) (S : FnScope N ps (defScope st)) (len : ∀ vs H Q E, sp vs H Q E -> vs.length = ps.length)
    (hbody : ∀ (cdv : Value) (A : Around) (outer : List Env) (s : Shared) (H : Hp) (vs : List V) (Q : VK) (E : XK), Room k (A.deeper (envOfC qual (defScope st) s.heap.objs.size f cdv)) -> sp vs H Q E ->
      ∃ t, PSs (cxOf CX0 P w K mg base N qual (defScope st) f cdv A outer s H E).nox (defBody st) t /\ t { nx := fun _ H' => Q .non H', rt := Q } (start N vs) H) : FnOk P w K mg base CX0 (k + 1) f fd ps sp := by
  obtain ⟨oc, od, kV, doc, pm, an, cdv, ct, osl, rfl, lk, hcd⟩ := F.ex
  refine fn_of lk hcd S len fun A outer s H vs Q E hr hsp => ?_
  obtain ⟨t, h, q⟩ := hbody cdv A outer s H vs Q E hr hsp
  exact ⟨t, h.nox, q⟩
theorem Fun.binds {x qual : Str} {st : Stmt} {f : Addr} {fd : FuncData} {ps : List Str} (F : Fun K x qual st f fd)
    (h : ∀ (kV doc pm : Value) (an : Option Addr) (cdv ct : Value) (us : List Value), us.length = ps.length -> bindArgs (PySem.W.fnOf x qual (defArgs st) (defBody st) (defScope st) .none kV doc pm an cdv ct) ⟨us, []⟩ = pure (ps.zip us)) (hd : fd.defaults = .none := by rfl) : Binds K fd ps [] := by
  obtain ⟨oc, od, kV, doc, pm, an, cdv, ct, osl, rfl, lk, hcd⟩ := F.ex
  have e : kV.1 = .none := hd
  rw [e]
  exact .all (h kV.2 doc pm an cdv ct)
theorem fun_mk {x qual : Str} {st : Stmt} {f : Addr} {oc : Value} {od an : Option Addr} {osl : Array (Option Value)} {dV kV doc pm cdv ct : Value} (l : K.lookup f = some ⟨oc, od, .func (PySem.W.fnOf x qual (defArgs st) (defBody st) (defScope st) dV kV doc pm an cdv ct), osl⟩)
    (c : PySem.W.codeIn K cdv qual = true) (k : PySem.W.keepIn K (.ref f) = true) : Fun K x qual st f (PySem.W.fnOf x qual (defArgs st) (defBody st) (defScope st) dV kV doc pm an cdv ct) := ⟨⟨oc, od, (dV, kV), doc, pm, an, cdv, ct, osl, rfl, l, c⟩, k⟩
end
section
variable {X : Cx}
end

theorem iteT {A B : Prop} (h : A) : if true = true then A else B := by
  rw [if_pos rfl]
  exact h
theorem ite2 {c A B : Prop} [Decidable c] (h1 : c -> A) (h2 : ¬ c -> B) : if c then A else B := by
  by_cases h : c
  . rw [if_pos h]
    exact h1 h
  . rw [if_neg h]
    exact h2 h
def Same (H H' : Hp) : Prop := ∀ b o, H b = some o -> H' b = some o
end L2

namespace L2
open PySem PySem.Spec PyProof.Rows
section
variable {X : Cx}
end
end L2
namespace L2
open PySem PySem.Spec PyProof.Rows
section
variable {κ : Type} [DecidableEq κ]
end
end L2


namespace L2
open PySem PySem.Spec PyProof.Rows

def closOf (env : Env) : List (Str × NameKind) -> List (Str × Addr) -> List (Str × Addr)
  | [], acc => acc
  | (n, k) :: r, acc => if k == .free then closOf env r ((n, (env.cells.lookup n).getD 0) :: acc) else closOf env r acc

theorem closFold {env : Env} (f : Str × NameKind -> List (Str × Addr) -> Sem (ForInStep (List (Str × Addr))))
    (hf : ∀ n k cs, f (n, k) cs = if k == .free then (do let a <- cellOf env n; pure (.yield ((n, a) :: cs))) else pure (.yield cs)) :
    ∀ (names : List (Str × NameKind)) (acc : List (Str × Addr)), (∀ x ∈ names, x.2 = .free -> (env.cells.lookup x.1).isSome = true) -> forIn names acc f = (pure (closOf env names acc) : Sem _)
  | [], acc, _ => rfl
  | (n, k) :: r, acc, h => by
    have hr : ∀ x ∈ r, x.2 = .free -> (env.cells.lookup x.1).isSome = true := fun x hx => h x (List.mem_cons_of_mem _ hx)
    rw [List.forIn_cons, hf]
    unfold closOf
    cases hk : k == NameKind.free with
    | true =>
      obtain ⟨c, hc⟩ := Option.isSome_iff_exists.mp (h (n, k) List.mem_cons_self (by simpa using hk))
      have e : cellOf env n = pure c := by unfold cellOf; rw [hc]
      simp only [if_true]
      rw [e, pure_bind, pure_bind, hc]
      exact closFold f hf r _ hr
    | false =>
      simp only [Bool.false_eq_true, if_false]
      rw [pure_bind]
      exact closFold f hf r _ hr

theorem closureFor_of {scope : Scope} {env : Env} (h : ∀ x ∈ scope.names, x.2 = .free -> (env.cells.lookup x.1).isSome = true) : closureFor scope env = pure (closOf env scope.names []) := by
  simp only [closureFor]
  rw [closFold (env := env) _ (fun n k cs => by
    cases hk : k == NameKind.free <;> simp [hk]) _ _ h]
  rfl

theorem mem_closOf {env : Env} : ∀ {names : List (Str × NameKind)} {acc : List (Str × Addr)} {n : Str} {c : Addr}, (n, c) ∈ closOf env names acc -> (n, c) ∈ acc \/ ((n, .free) ∈ names /\ c = (env.cells.lookup n).getD 0)
  | [], _, _, _, h => .inl h
  | (x, k) :: r, acc, n, c, h => by
    unfold closOf at h
    cases hk : k == NameKind.free with
    | true =>
      rw [hk] at h
      simp only [if_true] at h
      have ek : k = .free := by simpa using hk
      subst ek
      rcases mem_closOf h with h | h
      . rcases List.mem_cons.mp h with e | h
        . cases e; exact .inr ⟨List.mem_cons_self, rfl⟩
        . exact .inl h
      . exact .inr ⟨List.mem_cons_of_mem _ h.1, h.2⟩
    | false =>
      rw [hk] at h
      simp only [Bool.false_eq_true, if_false] at h
      rcases mem_closOf h with h | h
      . exact .inl h
      . exact .inr ⟨List.mem_cons_of_mem _ h.1, h.2⟩
theorem closOf_acc {env : Env} : ∀ {names : List (Str × NameKind)} {acc : List (Str × Addr)} {p : Str × Addr}, p ∈ acc -> p ∈ closOf env names acc
  | [], _, _, h => h
  | (x, k) :: r, acc, p, h => by
    unfold closOf
    split
    . exact closOf_acc (List.mem_cons_of_mem _ h)
    . exact closOf_acc h
theorem closOf_mem {env : Env} : ∀ {names : List (Str × NameKind)} {acc : List (Str × Addr)} {n : Str}, (n, .free) ∈ names -> (n, (env.cells.lookup n).getD 0) ∈ closOf env names acc
  | (x, k) :: r, acc, n, h => by
    unfold closOf
    rcases List.mem_cons.mp h with e | h
    . cases e
      exact closOf_acc List.mem_cons_self
    . split <;> exact closOf_mem h
theorem mem_cellsFrom : ∀ {names : List (Str × NameKind)} {m : Nat} {acc : List (Str × Addr)} {n : Str} {c : Addr}, (n, c) ∈ cellsFrom m names acc -> (n, c) ∈ acc \/ ((n, .cell) ∈ names /\ m <= c)
  | [], _, _, _, _, h => .inl h
  | (x, k) :: r, m, acc, n, c, h => by
    unfold cellsFrom at h
    cases hk : k == NameKind.cell with
    | true =>
      rw [hk] at h
      simp only [if_true] at h
      have ek : k = .cell := by simpa using hk
      subst ek
      rcases mem_cellsFrom h with h | h
      . rcases List.mem_cons.mp h with e | h
        . cases e; exact .inr ⟨List.mem_cons_self, Nat.le_refl _⟩
        . exact .inl h
      . exact .inr ⟨List.mem_cons_of_mem _ h.1, Nat.le_of_succ_le h.2⟩
    | false =>
      rw [hk] at h
      simp only [Bool.false_eq_true, if_false] at h
      rcases mem_cellsFrom h with h | h
      . exact .inl h
      . exact .inr ⟨List.mem_cons_of_mem _ h.1, h.2⟩
theorem cellsFrom_acc : ∀ {names : List (Str × NameKind)} {m : Nat} {acc : List (Str × Addr)} {p : Str × Addr}, p ∈ acc -> p ∈ cellsFrom m names acc
  | [], _, _, _, h => h
  | (x, k) :: r, m, acc, p, h => by
    unfold cellsFrom
    split
    . exact cellsFrom_acc (List.mem_cons_of_mem _ h)
    . exact cellsFrom_acc h
theorem cellsFrom_mem : ∀ {names : List (Str × NameKind)} {m : Nat} {acc : List (Str × Addr)} {n : Str}, (n, .cell) ∈ names -> ∃ c, (n, c) ∈ cellsFrom m names acc
  | (x, k) :: r, m, acc, n, h => by
    unfold cellsFrom
    rcases List.mem_cons.mp h with e | h
    . cases e
      exact ⟨m, cellsFrom_acc List.mem_cons_self⟩
    . split <;> exact cellsFrom_mem h
theorem lookup_some_of_mem {α : Type} : ∀ {l : List (Str × α)} {n : Str} {c : α}, (n, c) ∈ l -> ∃ c', l.lookup n = some c' /\ (n, c') ∈ l
  | (k, v) :: r, n, c, h => by
    rw [List.lookup_cons]
    cases hb : n == k with
    | true => exact ⟨v, rfl, by rw [beq_iff_eq.mp hb]; exact List.mem_cons_self⟩
    | false =>
      rcases List.mem_cons.mp h with e | h
      . cases e; simp at hb
      . obtain ⟨c', e, m⟩ := lookup_some_of_mem h
        exact ⟨c', e, List.mem_cons_of_mem _ m⟩
theorem key_uniq {α : Type} : ∀ {l : List (Str × α)} {n : Str} {a b : α}, (l.map (·.1)).Nodup -> (n, a) ∈ l -> (n, b) ∈ l -> a = b
  | x :: r, n, a, b, nd, h, h' => by
    rw [List.map_cons, List.nodup_cons] at nd
    have no : ∀ c, (n, c) ∈ r -> n ≠ x.1 := fun c hc e => nd.1 (by rw [<- e]; exact List.mem_map_of_mem (f := (·.1)) hc)
    rcases List.mem_cons.mp h with e | h <;> rcases List.mem_cons.mp h' with e' | h'
    . rw [<- e] at e'; cases e'; rfl
    . exact absurd (by rw [<- e]) (no b h')
    . exact absurd (by rw [<- e']) (no a h)
    . exact key_uniq nd.2 h h'
theorem lookup_uniq {α : Type} {l : List (Str × α)} {n : Str} {a : α} (nd : (l.map (·.1)).Nodup) (h : (n, a) ∈ l) : l.lookup n = some a := by
  obtain ⟨c, e, m⟩ := lookup_some_of_mem h
  rw [e, key_uniq nd h m]
theorem apart_cellsFrom : ∀ {names : List (Str × NameKind)} {m : Nat} {acc : List (Str × Addr)}, (∀ p ∈ acc, p.2 < m) -> (∀ n n' c, (n, c) ∈ acc -> (n', c) ∈ acc -> n = n') ->
    ∀ n n' c, (n, c) ∈ cellsFrom m names acc -> (n', c) ∈ cellsFrom m names acc -> n = n'
  | [], _, _, _, h, n, n', c, a, b => h n n' c a b
  | (x, k) :: r, m, acc, lt, h, n, n', c, a, b => by
    unfold cellsFrom at a b
    cases hk : k == NameKind.cell with
    | true =>
      rw [hk] at a b
      simp only [if_true] at a b
      refine apart_cellsFrom (m := m + 1) (acc := (x, m) :: acc) (fun p hp => ?_) (fun n n' c a b => ?_) n n' c a b
      . rcases List.mem_cons.mp hp with rfl | hp
        . exact Nat.lt_succ_self _
        . exact Nat.lt_succ_of_lt (lt p hp)
      . rcases List.mem_cons.mp a with e | a <;> rcases List.mem_cons.mp b with e' | b
        . cases e; cases e'; rfl
        . cases e; exact absurd (lt _ b) (Nat.lt_irrefl _)
        . cases e'; exact absurd (lt _ a) (Nat.lt_irrefl _)
        . exact h n n' c a b
    | false =>
      rw [hk] at a b
      simp only [Bool.false_eq_true, if_false] at a b
      exact apart_cellsFrom lt h n n' c a b

theorem isCell_pushCells : ∀ (names : List (Str × NameKind)) (h : Heap) (acc : List (Str × Addr)) (n : Str) (c : Addr), (n, c) ∈ cellsFrom h.objs.size names acc -> (n, c) ∈ acc \/ (pushCells h names).IsCell c none
  | [], _, _, _, _, h => .inl h
  | (x, k) :: r, h, acc, n, c, hm => by
    unfold cellsFrom at hm
    unfold pushCells
    cases hk : k == NameKind.cell with
    | true =>
      rw [hk] at hm
      simp only [if_true] at hm ⊢
      rw [show h.objs.size + 1 = (h.push { cls := .type "cell", data := .cell none }).objs.size from (Heap.size_push ..).symm] at hm
      rcases isCell_pushCells r _ _ n c hm with h1 | h1
      . rcases List.mem_cons.mp h1 with e | h1
        . cases e
          exact .inr (Heap.IsCell.keeps ⟨_, Heap.get?_push_size _ rfl, rfl⟩ (pushCells_keeps r _))
        . exact .inl h1
      . exact .inr h1
    | false =>
      rw [hk] at hm
      simp only [Bool.false_eq_true, if_false] at hm ⊢
      exact isCell_pushCells r h acc n c hm

def compEnv2 (scope : Scope) (C : Addr) (env : Env) : Env := compEnvC scope (cellsFrom (C + 1) scope.names (closOf env scope.names [])) C env

theorem newCompEnv {M : Model} {A : Around} {E : Value -> Shared -> Prop} {s : Shared} {scope : Scope} {globals : Addr} {cl : List (Str × Addr)} {qual : Str} {env : Env} {Q : Env -> Shared -> Prop}
    (h : Q (newEnv scope s.heap.objs.size globals (cellsFrom (s.heap.objs.size + 1) scope.names cl) qual none .none (some env) builtinsNs) { s with heap := pushCells (s.heap.push { cls := .type "dict", data := .dict #[] }) scope.names }) :
    wpAny M A (newFunctionEnv scope globals cl [] qual none .none (some env)) Q E s := by
  simp only [newFunctionEnv, Option.isSome_some, if_true]
  refine wpAny_bind (wpAny_alloc ?_)
  refine wpAny_bind (wpAny_layCells _ (fun name kind cells => by cases hkc : kind == NameKind.cell <;> simp [hkc]) _ _ _ _ ?_)
  rw [show ({ s with heap := s.heap.push { cls := .type "dict", data := .dict #[] } } : Shared).heap.objs.size = s.heap.objs.size + 1 from Heap.size_push ..]
  rw [List.forIn_nil]
  exact wpAny_bind (wpAny_pure (wpAny_pure h))

def compCx (X : Cx) (N : List Str) (scope : Scope) (C : Addr) (s : Shared) (H : Hp) (ex : List Addr) : Cx where
  prog := X.prog
  w := X.w
  K := X.K
  mg := X.mg
  base := X.base
  A := X.A
  N := N
  s₀ := s
  H₀ := H
  env := compEnv2 scope C X.env
  outer := X.stack
  stack := X.stack
  ex := ex
  fn := fun x => scope.names.lookup x == some .cell
  calm := X.calm
  pn := []
  xe := fun _ _ => False

structure CompSc (X : Cx) (scope : Scope) : Prop where
  kind : scope.kind = .function
  nd : (scope.names.map (·.1)).Nodup
  free : ∀ x ∈ scope.names, x.2 = .free -> (X.env.kindOf x.1 = some .cell \/ X.env.kindOf x.1 = some .free)
def freeOk (sc : Scope) (scope : Scope) : Bool := scope.names.all fun x => x.2 != .free || (sc.names.lookup x.1 == some .cell || sc.names.lookup x.1 == some .free)
theorem CompSc.of {X : Cx} {scope : Scope} (k : scope.kind = .function) (nd : (scope.names.map (·.1)).Nodup) (f : freeOk X.env.scope scope = true) : CompSc X scope := ⟨k, nd, fun x hx e => by
  have q := List.all_eq_true.mp f x hx
  rw [e] at q
  show X.env.scope.names.lookup x.1 = _ \/ X.env.scope.names.lookup x.1 = _
  simpa using q⟩

theorem relabel_lookup {env : Env} : ∀ {names : List (Str × NameKind)} {x : Str} {k : NameKind},
    (names.map fun (n, k) => if (k == NameKind.free && env.scope.kind == .function && env.kindOf n == some .cell) then (n, NameKind.cell) else (n, k)).lookup x = some k ->
    (∃ k', names.lookup x = some k' /\ (k' = k \/ (k' = .free /\ k = .cell /\ env.kindOf x = some .cell)))
  | [], _, _, h => by simp at h
  | (n, k0) :: r, x, k, h => by
    rw [List.map_cons, List.lookup_cons] at h
    rw [List.lookup_cons]
    have hn : (if (k0 == NameKind.free && env.scope.kind == .function && env.kindOf n == some .cell) = true then (n, NameKind.cell) else (n, k0)).1 = n := by split <;> rfl
    dsimp only at h
    rw [hn] at h
    cases hx : x == n with
    | false =>
      rw [hx] at h
      exact relabel_lookup h
    | true =>
      rw [hx] at h
      simp only [Option.some.injEq] at h
      refine ⟨k0, rfl, ?_⟩
      have ex : x = n := beq_iff_eq.mp hx
      subst ex
      by_cases hc : (k0 == NameKind.free && env.scope.kind == .function && env.kindOf x == some .cell) = true
      . rw [if_pos hc] at h
        simp only [Bool.and_eq_true, beq_iff_eq] at hc
        exact .inr ⟨hc.1.1, h.symm, hc.2⟩
      . rw [if_neg hc] at h
        exact .inl h

def takeFrom (σ : St) (fr : List Nat) : St := fr.map fun j => (σ[j]?).join

theorem comp_inv {X : Cx} {pins : List (Addr × Obj)} {σ : St} {H : Hp} {s s3 : Shared} {scope : Scope} {own free : List Str} {fr : List Nat} {ex : List Addr} (S : CompSc X scope)
    (I : Inv X pins σ H s) (hex : ∀ b ∈ ex, FpOk X pins H b) (hob : ∀ b ∈ ex, ∃ o, s.heap.get? b = some o) (hfr : fr.map (fun j => X.N[j]?) = free.map some) (hff : ∀ x ∈ free, scope.names.lookup x = some .free)
    (hs3 : ∀ b o, s.heap.get? b = some o -> s3.heap.get? b = some o) (hsz : s.heap.objs.size <= s3.heap.objs.size) (ho : s3.os = s.os) (hg : s3.gens = s.gens) :
    Inv (compCx X (own ++ free) scope s3.heap.objs.size s H ex) [] (own.map (fun _ => none) ++ takeFrom σ fr) H { s3 with heap := pushCells (s3.heap.push { cls := .type "dict", data := .dict #[] }) scope.names } := by
  have hsome : ∀ x ∈ scope.names, x.2 = .free -> ∃ c, X.env.cells.lookup x.1 = some c := fun x hx e => I.ok.has x.1 (S.free x hx e)
  have keep : ∀ b o, s3.heap.get? b = some o -> (pushCells (s3.heap.push { cls := .type "dict", data := .dict #[] }) scope.names).get? b = some o := fun b o e => pushCells_keeps _ _ b o (Heap.get?_push_of_some _ e)
  have hkeep : ∀ b o, s.heap.get? b = some o -> (pushCells (s3.heap.push { cls := .type "dict", data := .dict #[] }) scope.names).get? b = some o := fun b o e => keep b o (hs3 b o e)
  -- the cells
  have cells : ∀ n c, (n, c) ∈ (compEnv2 scope s3.heap.objs.size X.env).cells -> ((n, NameKind.free) ∈ scope.names /\ X.env.cells.lookup n = some c) \/ ((n, NameKind.cell) ∈ scope.names /\ s3.heap.objs.size + 1 <= c /\ (pushCells (s3.heap.push { cls := .type "dict", data := .dict #[] }) scope.names).IsCell c none) := fun n c h => by
    have h' : (n, c) ∈ cellsFrom (s3.heap.objs.size + 1) scope.names (closOf X.env scope.names []) := h
    have hc := mem_cellsFrom h'
    have e := isCell_pushCells scope.names (s3.heap.push { cls := .type "dict", data := .dict #[] }) (closOf X.env scope.names []) n c (by rw [Heap.size_push]; exact h')
    have fromClos : (n, c) ∈ closOf X.env scope.names [] -> (n, NameKind.free) ∈ scope.names /\ X.env.cells.lookup n = some c := fun hm => by
      rcases mem_closOf hm with h | ⟨hn, rfl⟩
      . exact absurd h (by simp)
      . obtain ⟨c', ec⟩ := hsome _ hn rfl
        rw [ec]; exact ⟨hn, rfl⟩
    rcases hc with hc | hc
    . exact .inl (fromClos hc)
    . rcases e with e | e
      . exact .inl (fromClos e)
      . exact .inr ⟨hc.1, hc.2, e⟩
  have cell_lt : ∀ n c, X.env.cells.lookup n = some c -> c < s.heap.objs.size := fun n c e => by
    obtain ⟨v, o, ho, _⟩ := I.cell n c e
    exact Heap.lt_size ho
  have apart : ∀ n n' c, (n, c) ∈ (compEnv2 scope s3.heap.objs.size X.env).cells -> (n', c) ∈ (compEnv2 scope s3.heap.objs.size X.env).cells -> n = n' := fun n n' c a b => by
    refine apart_cellsFrom (acc := closOf X.env scope.names []) (m := s3.heap.objs.size + 1) (fun p hp => ?_) (fun n n' c a b => ?_) n n' c a b
    . obtain ⟨n, c⟩ := p
      rcases mem_closOf hp with h | ⟨hn, e⟩
      . exact absurd h (by simp)
      . obtain ⟨c', ec⟩ := hsome _ hn rfl
        rw [ec] at e
        cases e
        exact Nat.lt_succ_of_lt (Nat.lt_of_lt_of_le (cell_lt n _ ec) hsz)
    . rcases mem_closOf a with h | ⟨hn, e⟩
      . exact absurd h (by simp)
      . rcases mem_closOf b with h | ⟨hn', e'⟩
        . exact absurd h (by simp)
        . obtain ⟨c1, e1⟩ := hsome _ hn rfl
          obtain ⟨c2, e2⟩ := hsome _ hn' rfl
          have e1' : X.env.cells.lookup n = some c1 := e1
          have e2' : X.env.cells.lookup n' = some c2 := e2
          rw [e1'] at e
          rw [e2'] at e'
          exact I.ok.inj n n' c (by rw [e1', e]; rfl) (by rw [e2', e']; rfl)
  have vis : ∀ x, ((compEnv2 scope s3.heap.objs.size X.env).kindOf x = some .cell \/ (compEnv2 scope s3.heap.objs.size X.env).kindOf x = some .free) -> (x, NameKind.cell) ∈ scope.names \/ (x, NameKind.free) ∈ scope.names := fun x h => by
    rcases h with h | h
    . obtain ⟨k', e, q⟩ := relabel_lookup h
      rcases q with q | q
      . exact .inl (by rw [<- q]; exact PySem.mem_of_lookup e)
      . exact .inr (by rw [<- q.1]; exact PySem.mem_of_lookup e)
    . obtain ⟨k', e, q⟩ := relabel_lookup h
      rcases q with q | q
      . exact .inr (by rw [<- q]; exact PySem.mem_of_lookup e)
      . exact .inr (by rw [<- q.1]; exact PySem.mem_of_lookup e)
  have fsub : ∀ b ∈ frs X.stack, b = X.env.locals \/ b ∈ X.fs := fun b hb => by
    have := I.stkSub b hb
    simpa using this
  have fresh : ∀ b, s.heap.objs.size <= b -> s.heap.get? b = none := fun b hb => by
    cases e : s.heap.get? b with
    | none => rfl
    | some o => exact absurd (Heap.lt_size e) (Nat.not_lt.mpr hb)
  have exlt : ∀ b ∈ ex, b < s.heap.objs.size := fun b hb => by obtain ⟨o, e⟩ := hob b hb; exact Heap.lt_size e
  refine ⟨⟨I.ok.mod, S.kind, I.ok.glob, I.ok.blt, hsz, fun x y c a b => apart x y c (PySem.mem_of_lookup a) (PySem.mem_of_lookup b), fun x hx => ?_, fun x c hx hc => ?_, I.ok.hd, I.ok.frames, .inl rfl, fun b hb => ?_, I.bs, ?_, fun b o e hb => ?_, fun b hb hf => ?_, I.stack, I.stkFree⟩,
    ho, ?_, Un.kept hkeep, ?_, fun x c hc => ?_, I.hok.fresh hsz, fun x c hc => ?_, fun p hp => absurd hp (by simp [compCx]), I.hok.kept hkeep, ?_⟩
  . rcases vis x hx with h | h
    . obtain ⟨c, hc⟩ := cellsFrom_mem (m := s3.heap.objs.size + 1) (acc := closOf X.env scope.names []) h
      obtain ⟨c', e, _⟩ := lookup_some_of_mem hc
      exact ⟨c', e⟩
    . obtain ⟨c', e, _⟩ := lookup_some_of_mem (cellsFrom_acc (names := scope.names) (m := s3.heap.objs.size + 1) (closOf_mem (env := X.env) (acc := []) h))
      exact ⟨c', e⟩
  . have hx' : scope.names.lookup x = some .cell := by simpa [compCx] using hx
    rcases cells x c (PySem.mem_of_lookup hc) with h | h
    . have := key_uniq S.nd h.1 (PySem.mem_of_lookup hx')
      cases this
    . show s.heap.objs.size <= c
      omega
  . refine ⟨Nat.ne_of_lt (Nat.lt_of_lt_of_le (exlt b hb) hsz), fun x c hc => ?_⟩
    rcases cells x c (PySem.mem_of_lookup hc) with h | h
    . exact (hex b hb).2.2.2.2.1 x c h.2
    . have := exlt b hb
      intro e
      have e' : Nat.lt c s.heap.objs.size := by rw [e]; exact this
      exact absurd (Nat.lt_of_lt_of_le e' hsz) (Nat.not_lt.mpr (Nat.le_of_succ_le h.2.1))
  . exact Nat.le_trans I.ok.bsz I.sz
  . have hb' : b ∈ ex := hb
    rcases (hex b hb').2.2.2.1 with h | h
    . exact I.ok.noex b o e h
    . exact absurd (Heap.lt_size (I.ok.bs b o e).1) (Nat.not_lt.mpr h)
  . have hb' : b ∈ ex := hb
    rcases fsub b hf with h | h
    . exact (hex b hb').2.1 h
    . exact (hex b hb').2.2.1 h
  . show AllBare s3.gens
    rw [hg]; exact I.bare
  . -- the names
    refine ⟨_, (Heap.Ns.new s3.heap (.type "dict")).keeps (pushCells_keeps _ _), fun i x v hi hv vx => ?_⟩
    have hN : (own ++ free)[i]? = some x := hi
    have hio : own.length <= i := by
      rcases Nat.lt_or_ge i own.length with h | h
      . rw [List.getElem?_append_left (by simpa using h), List.getElem?_map, List.getElem?_eq_getElem h] at hv
        cases hv
      . exact h
    rw [List.getElem?_append_right hio] at hN
    rw [List.getElem?_append_right (by simpa using hio)] at hv
    simp only [List.length_map] at hv
    unfold takeFrom at hv
    rw [List.getElem?_map] at hv
    have hx2 := hff x (List.mem_of_getElem? hN)
    have hmem : (x, NameKind.free) ∈ scope.names := PySem.mem_of_lookup hx2
    cases ej : fr[i - own.length]? with
    | none => rw [ej] at hv; cases hv
    | some j =>
      rw [ej] at hv
      simp only [Option.map_some, Option.some.injEq] at hv
      have hj : X.N[j]? = some x := by
        have q := congrArg (fun l => l[i - own.length]?) hfr
        simp only [List.getElem?_map, ej, hN, Option.map_some, Option.some.injEq] at q
        exact q
      have hσ : σ[j]? = some (some v) := by
        cases e : σ[j]? with
        | none => rw [e] at hv; cases hv
        | some w => rw [e] at hv; simp at hv; rw [hv]
      obtain ⟨m, hm, hl⟩ := I.loc
      have kx := S.free _ hmem rfl
      obtain ⟨u, ru, lk⟩ := hl j x v hj hσ (by rcases kx with k | k; exact .inr (.inl k); exact .inr (.inr k))
      refine ⟨u, ru, ?_⟩
      rcases lk with ⟨k, _⟩ | ⟨_, c, hc, hcell⟩
      . rcases kx with q | q <;> (have q' : X.env.kindOf x = _ := q; rw [k] at q'; cases q')
      . obtain ⟨c', e', m'⟩ := lookup_some_of_mem (cellsFrom_acc (names := scope.names) (m := s3.heap.objs.size + 1) (closOf_mem (env := X.env) (acc := []) hmem))
        have hcc : c' = c := by
          rcases cells x c' m' with h | h
          . rw [h.2] at hc; cases hc; rfl
          . have := key_uniq S.nd h.1 hmem; cases this
        subst hcc
        refine .inr ⟨?_, c', e', hcell.keeps hkeep⟩
        rcases vx with q | q | q
        . obtain ⟨k', ek, qq⟩ := relabel_lookup (env := X.env) (names := scope.names) q
          rw [hx2] at ek
          cases ek
          rcases qq with qq | qq
          . cases qq
          . cases qq.2.1
        . exact .inl q
        . exact .inr q
  . rcases cells x c (PySem.mem_of_lookup hc) with h | h
    . obtain ⟨v, hv⟩ := I.cell x c h.2
      exact ⟨v, hv.keeps hkeep⟩
    . exact ⟨_, h.2.2⟩
  . rcases cells x c (PySem.mem_of_lookup hc) with h | h
    . exact I.freeC x c h.2
    . exact I.hok.fresh (by omega)
  . show _ = (own ++ free).length
    have q := congrArg List.length hfr
    simp only [List.length_map] at q
    simp [takeFrom, q]
end L2

namespace L2
open PySem PySem.Spec PyProof.Rows

def PTs (X : Cx) (ifs : List Expr) (t : TT) : Prop :=
  ∀ (pins : List (Addr × Obj)) (s : Shared) (σ : St) (H : Hp) (Q : Bool -> Hp -> Prop), Inv X pins σ H s -> t σ H Q ->
    wpAny (model X.prog X.w) X.A (forIn ifs true fun c r => if r = true then do let ok <- isTrue c X.env (eval c X.env); pure (ForInStep.yield ok) else pure (ForInStep.yield r)) (TP X pins σ Q) X.xe s
def tNoT : TT := fun _ H Q => Q true H
theorem pts_nil {X : Cx} : PTs X [] tNoT := fun pins s σ H Q I h => wpAny_tests_nil ⟨H, I, h⟩
theorem pts_one {X : Cx} {c : Expr} {t : TT} (h : PT X c t) : PTs X [c] t := fun pins s σ H Q I q => wpAny_tests_one (h pins s σ H Q I q)

theorem compLoop_any {prog : Program} {w : World} {A : Around} {R : Result -> Shared -> Prop} {s : Shared} {elt target iter : Expr} {ifs : List Expr} {scope : Scope} {pos : Pos} {it acc : Value} {env : Env} (I : Nat -> Shared -> Prop)
    (turn : ∀ n s, I n s -> wpAny (model prog w) A (pyNext it) (fun r s₁ => match r with
      | none => R (.ok .next) s₁
      | some v => wpAny (model prog w) A (letOwnedTupleGo target it v) (fun _ s₁' => wpAny (model prog w) A (assign target env v) (fun _ s₂ =>
          wpAny (model prog w) A (forIn ifs true fun c r => if r = true then do let ok <- isTrue c env (eval c env); pure (ForInStep.yield ok) else pure (ForInStep.yield r)) (fun ok s₃ =>
            if ok = true then wpAny (model prog w) A (eval elt env) (fun x s₄ =>
              wpAny (model prog w) A (call (.builtin "list.append") [acc, x]) (fun _ s₅ => ∃ m, m < n /\ I m s₅) (notedBy (model prog w) A env fun e s' => R (.error e) s') s₄) (notedBy (model prog w) A env fun e s' => R (.error e) s') s₃
            else ∃ m, m < n /\ I m s₃) (notedBy (model prog w) A env fun e s' => R (.error e) s') s₂) (notedBy (model prog w) A env fun e s' => R (.error e) s') s₁') (notedBy (model prog w) A env fun e s' => R (.error e) s') s₁) (notedBy (model prog w) A env fun e s' => R (.error e) s') s)
    (n : Nat) (h : I n s) :
    codeAny (model prog w) A (.compLoop (.ListComp elt [⟨target, iter, ifs, 0⟩] scope pos) 0 it acc env) R s := by
  refine codeAny_loop rfl I (fun n s hI => ?_) n h
  show wpAny _ A ((compTurn (.ListComp elt [⟨target, iter, ifs, 0⟩] scope pos) 0 it acc env).onRaise (fun x => do noteFrame x env; theTreesLotGoes x)) _ _ s
  refine wpAny_noted ?_
  rw [compTurn_list]
  refine wpAny_bind (wpAny_standAt (wpAny_bind (wpAny_mono (turn n s hI) (fun r s₁ h₁ => ?_) fun _ _ h' => h')))
  cases r with
  | none => exact wpAny_pure h₁
  | some v =>
    refine wpAny_bind (wpAny_mono h₁ (fun _ s₁' h₁' => ?_) fun _ _ h' => h')
    refine wpAny_bind (wpAny_mono h₁' (fun _ s₂ h₂ => wpAny_bind (wpAny_mono h₂ (fun ok s₃ h₃ => ?_) fun _ _ h' => h')) fun _ _ h' => h')
    cases ok with
    | false => exact wpAny_pure ⟨rfl, h₃⟩
    | true =>
      exact wpAny_bind (wpAny_bind (wpAny_mono h₃ (fun x s₄ h₄ => wpAny_bind (wpAny_mono h₄ (fun _ s₅ h₅ => wpAny_pure (wpAny_pure ⟨rfl, h₅⟩)) fun _ _ h' => h')) fun _ _ h' => h'))

def Sub (σ σ2 : St) : Prop := σ.length = σ2.length /\ ∀ (i : Nat) v, σ[i]? = some (some v) -> σ2[i]? = some (some v)
abbrev lobj (its : List Value) (n : Nat) : Obj := { cls := .type "list", data := .seq its.toArray n }

section
variable {X : Cx} {tg iter elt : Expr} {ifs : List Expr} {scope : Scope} {pos : Pos} {own free : List Str} {fr : List Nat}

def CompTurns (J : It) (g : TG) (tc : TT) (te : TE) (σb : St) (Fin : List V -> Hp -> Prop) (W : Nat -> Nat -> List V -> Hp -> Prop) : Prop :=
  ∀ i m ys H, W i m ys H -> (J.stop i H /\ Fin ys H) \/ (J.go i H /\ ys.length < sizeLine /\ ∃ N : List V -> Hp -> Prop, (∀ ys' H', N ys' H' -> ∃ m', m' < m /\ W (i + 1) m' ys' H') /\ ∀ x H', J.yld i H x H' -> g x σb H' fun σ2 H3 => Sub σb σ2 /\ tc σ2 H3 fun b H4 =>
    if b = true then te σ2 H4 fun v H5 => N (ys ++ [v]) H5 else N ys H4)

theorem comp_run {pins : List (Addr × Obj)} {σ : St} {H2 : Hp} {s2 : Shared} {J : It} {fp : List Addr} {it : Addr} {tn : Nat -> Heap -> Prop} {g : TG} {tc : TT} {te : TE} {Fin : List V -> Hp -> Prop} {W : Nat -> Nat -> List V -> Hp -> Prop} {m0 : Nat}
    {RR : Value -> Addr -> Result -> Shared -> Prop} {E : Value -> Shared -> Prop}
    (S : CompSc X scope) (hc : X.calm = true) (hfr : fr.map (fun j => X.N[j]?) = free.map some) (hff : ∀ x ∈ free, scope.names.lookup x = some .free)
    (hg : ∀ C s H ex, PG (compCx X (own ++ free) scope C s H ex) tg g) (ht : ∀ C s H ex, PTs (compCx X (own ++ free) scope C s H ex) ifs tc) (he : ∀ C s H ex, PE (compCx X (own ++ free) scope C s H ex) elt te)
    (I2 : Inv X pins σ H2 s2) (T : Turn X.prog X.w X.K tg J fp it tn) (st2 : tn 0 s2.heap) (f2 : ∀ b ∈ fp, FpOk X pins H2 b)
    (w0 : W 0 m0 [] H2) (turn : CompTurns J g tc te (own.map (fun _ => none) ++ takeFrom σ fr) Fin W)
    (hRR : ∀ D C its n ys H' s', Inv (compCx X (own ++ free) scope C s2 H2 fp) [(D, lobj its n)] (own.map (fun _ => none) ++ takeFrom σ fr) H' s' -> Vals ys its -> ys.length <= sizeLine -> Fin ys H' -> s2.heap.objs.size <= D -> RR (.ref D) C (.ok .next) s') :
    wpAny (model X.prog X.w) X.A (newList []) (fun acc s₃ => wpAny (model X.prog X.w) X.A (newFunctionEnv scope X.env.globals (closOf X.env scope.names []) [] X.env.qual none .none (some X.env)) (fun cenv s₄ =>
      codeAny (model X.prog X.w) X.A (.compStart (.ListComp elt [⟨tg, iter, ifs, 0⟩] scope pos) 0 (.ref it) acc { cenv with scope := relabel scope X.env }) (RR acc cenv.locals) s₄) E s₃) E s2 := by
  refine wpAny_newObj_type (newCompEnv ?_)
  have hob : ∀ b ∈ fp, ∃ o, s2.heap.get? b = some o := fun b hb => by obtain ⟨o, e, _⟩ := T.obj _ _ st2 b hb; exact ⟨o, e⟩
  have fplt : ∀ b ∈ fp, b < s2.heap.objs.size := fun b hb => by obtain ⟨o, e⟩ := hob b hb; exact Heap.lt_size e
  generalize hs3 : ({ s2 with heap := s2.heap.push { cls := .type "list", dict := none, data := .seq ([] : List Value).toArray } } : Shared) = s3
  have hh3 : s3.heap = s2.heap.push (lobj [] 0) := by rw [<- hs3]
  have hC : s3.heap.objs.size = s2.heap.objs.size + 1 := by rw [hh3, Heap.size_push]
  have keep3 : ∀ b o, s2.heap.get? b = some o -> s3.heap.get? b = some o := fun b o e => by rw [hh3]; exact Heap.get?_push_of_some _ e
  have I3 := comp_inv (own := own) (ex := fp) (s3 := s3) S I2 f2 hob hfr hff keep3 (by rw [hC]; exact Nat.le_succ _) (by rw [<- hs3]) (by rw [<- hs3])
  generalize hs4 : ({ s3 with heap := pushCells (s3.heap.push { cls := .type "dict", data := .dict #[] }) scope.names } : Shared) = s4 at I3
  have keep4 : ∀ b o, s3.heap.get? b = some o -> s4.heap.get? b = some o := fun b o e => by rw [<- hs4]; exact pushCells_keeps _ _ b o (Heap.get?_push_of_some _ e)
  have hD4 : s4.heap.get? s2.heap.objs.size = some (lobj [] 0) := keep4 _ _ (by rw [hh3]; exact Heap.get?_push_size _ rfl)
  have nf : s2.heap.objs.size ∉ frs X.stack := fun hb => by
    obtain ⟨_, o, e, _⟩ := I2.stack.mem hb
    exact absurd (Heap.lt_size e) (Nat.lt_irrefl _)
  have hDC : s2.heap.objs.size ≠ s3.heap.objs.size := by rw [hC]; exact Nat.ne_of_lt (Nat.lt_succ_self _)
  -- the cells of the block are no list
  have cellD : ∀ {P : List (Addr × Obj)} {σ' H' s'} {its : List Value} {n : Nat}, Inv (compCx X (own ++ free) scope s3.heap.objs.size s2 H2 fp) P σ' H' s' -> s'.heap.get? s2.heap.objs.size = some (lobj its n) -> ∀ x c, (compEnv2 scope s3.heap.objs.size X.env).cells.lookup x = some c -> c ≠ s2.heap.objs.size := fun I e x c hc z => by
    obtain ⟨v, o, eo, ed⟩ := I.cell x c hc
    rw [z, e] at eo
    cases eo
    cases ed
  have pinD : ∀ {σ' H' s'} {its : List Value} {n : Nat}, Inv (compCx X (own ++ free) scope s3.heap.objs.size s2 H2 fp) [] σ' H' s' -> s'.heap.get? s2.heap.objs.size = some (lobj its n) -> H' s2.heap.objs.size = none ->
      Inv (compCx X (own ++ free) scope s3.heap.objs.size s2 H2 fp) [(s2.heap.objs.size, lobj its n)] σ' H' s' := fun {σ' H' s' its n} I e hn => I.pins_of fun p hp => by
    have hp' : p = (s2.heap.objs.size, lobj its n) := List.mem_singleton.mp hp
    subst hp'
    exact ⟨e, hn, hDC, nf, fun v => by intro z; cases z⟩
  have I4 := pinD I3 hD4 (I2.hok.fresh (Nat.le_refl _))
  have fpOk : ∀ {σ' H' s'} {its : List Value} {n : Nat}, Inv (compCx X (own ++ free) scope s3.heap.objs.size s2 H2 fp) [(s2.heap.objs.size, lobj its n)] σ' H' s' -> (∀ b ∈ fp, H' b = none) -> ∀ b ∈ fp, FpOk (compCx X (own ++ free) scope s3.heap.objs.size s2 H2 fp) [(s2.heap.objs.size, lobj its n)] H' b := fun {σ' H' s' its n} I hn b hb => by
    refine ⟨hn b hb, (I.ok.exf b hb).1, I.ok.exfs b hb, .inl hb, (I.ok.exf b hb).2, fun p hp => ?_⟩
    have hp' : p = (s2.heap.objs.size, lobj its n) := List.mem_singleton.mp hp
    subst hp'
    exact Ne.symm (Nat.ne_of_lt (fplt b hb))
  have stn4 : tn 0 s4.heap := T.keep _ _ _ st2 fun b hb o e => keep4 b o (keep3 b o e)
  have loop : ∀ s', s' = s4 -> codeAny (model X.prog X.w) X.A (.compLoop (.ListComp elt [⟨tg, iter, ifs, 0⟩] scope pos) 0 (.ref it) (.ref s2.heap.objs.size) (compEnv2 scope s3.heap.objs.size X.env)) (RR (.ref s2.heap.objs.size) s3.heap.objs.size) s' := by
    rintro s' rfl
    refine compLoop_any (fun k s' => ∃ i ys its n H', Inv (compCx X (own ++ free) scope s3.heap.objs.size s2 H2 fp) [(s2.heap.objs.size, lobj its n)] (own.map (fun _ => none) ++ takeFrom σ fr) H' s' /\ tn i s'.heap /\ (∀ b ∈ fp, H' b = none) /\ Vals ys its /\ ys.length <= sizeLine /\ W i k ys H') ?_ m0
      ⟨0, [], [], 0, H2, I4, stn4, fun b hb => (f2 b hb).1, .nil, Nat.zero_le _, w0⟩
    rintro k s5 ⟨i, ys, its, n, H5, I5, st5, fr5, r5, len5, w5⟩
    rcases turn i k ys H5 w5 with ⟨stop, fin⟩ | ⟨go, hlt, N, hN, step⟩
    . refine wpAny_mono (T.done (compCx X (own ++ free) scope s3.heap.objs.size s2 H2 fp) rfl rfl rfl hc i _ s5 _ H5 (fun _ _ => False) I5 (fpOk I5 fr5) st5 stop) (fun r s6 ⟨hr, I6⟩ => ?_) fun _ _ f => f.elim
      subst hr
      exact hRR _ _ its n ys H5 s6 I6 r5 len5 fin (Nat.le_refl _)
    . refine wpAny_mono (T.item (compCx X (own ++ free) scope s3.heap.objs.size s2 H2 fp) rfl rfl rfl hc i _ s5 _ H5 (fun _ _ => False) I5 (fpOk I5 fr5) st5 go) (fun r s6 ⟨u, hr, h6⟩ => ?_) fun _ _ f => f.elim
      subst hr
      refine wpAny_mono h6 (fun _ s7 ⟨x, H7, I7, r7, y7, st7, fr7⟩ => ?_) fun _ _ f => f.elim
      have I7' := I7.pinned (fpOk I7 fr7) (T.obj _ _ st7)
      refine wpAny_mono (hg _ _ _ _ _ s7 _ H7 x u _ I7' r7 (step x H7 y7)) (fun _ s8 ⟨σ8, H8, I8, sub8, q8⟩ => ?_) fun _ _ f => f.elim
      refine wpAny_mono (ht _ _ _ _ _ s8 σ8 H8 _ I8 q8) (fun b s9 ⟨H9, I9, q9⟩ => ?_) fun _ _ f => f.elim
      have back : ∀ {H' s'}, Inv (compCx X (own ++ free) scope s3.heap.objs.size s2 H2 fp) ([(s2.heap.objs.size, lobj its n)] ++ pinsAt fp s7.heap) σ8 H' s' -> tn (i + 1) s'.heap /\ (∀ b ∈ fp, H' b = none) := fun {H' s'} I => by
        refine ⟨T.keep _ _ _ st7 fun b hb o e => (I.pin (b, o) (List.mem_append_right _ (List.mem_append_right _ (mem_pinsAt hb e)))).1, fun b hb => ?_⟩
        obtain ⟨o, e, d⟩ := T.obj _ _ st7 b hb
        exact (I.pin (b, o) (List.mem_append_right _ (List.mem_append_right _ (mem_pinsAt hb e)))).2.1
      cases b with
      | false =>
        obtain ⟨m', hm, w9⟩ := hN _ _ q9
        obtain ⟨st9, fr9⟩ := back I9
        exact ⟨m', hm, i + 1, ys, its, n, H9, I9.unpinned.weak sub8.1 sub8.2, st9, fr9, r5, len5, w9⟩
      | true =>
        refine wpAny_mono (he _ _ _ _ _ s9 σ8 H9 _ I9 q9) (fun v s10 ⟨y, H10, I10, r10, q10⟩ => ?_) fun _ _ f => f.elim
        obtain ⟨m', hm, w10⟩ := hN _ _ q10
        obtain ⟨st10, fr10⟩ := back I10
        have pD := I10.pin (s2.heap.objs.size, lobj its n) (List.mem_append_right _ (List.mem_append_left _ List.mem_cons_self))
        refine append_at (hsz := by rw [List.size_toArray, <- r5.length]; exact len5) pD.1 fun h' hsb hnew => ?_
        have J0 : Inv (compCx X (own ++ free) scope s3.heap.objs.size s2 H2 fp) (pinsAt fp s7.heap) σ8 H10 s10 := I10.pins_of fun p hp => I10.pin p (by
          have hp' : p ∈ pinsAt fp s7.heap := by simpa [compCx] using hp
          exact List.mem_append_right _ (List.mem_append_right _ hp'))
        have J1 : Inv (compCx X (own ++ free) scope s3.heap.objs.size s2 H2 fp) (pinsAt fp s7.heap) σ8 H10 { s10 with heap := h' } := J0.turned (it := s2.heap.objs.size) (t' := s10.toks) (fun b o hb e => hsb.extBut b o hb e) pD.2.1 hDC (.inr (Nat.le_refl _)) (cellD J0 pD.1) (fun p hp => by
          have hp' : p ∈ pinsAt fp s7.heap := by simpa [compCx] using hp
          exact Nat.ne_of_lt (fplt _ (of_pinsAt hp').1))
        have J2 : Inv (compCx X (own ++ free) scope s3.heap.objs.size s2 H2 fp) [] σ8 H10 { s10 with heap := h' } := J1.pins_of fun p hp => absurd hp (by simp [compCx])
        have st11 : tn (i + 1) h' := T.keep _ _ _ st10 fun b hb o e => hsb.extBut b o (Nat.ne_of_lt (fplt b hb)) e
        have e11 : h'.get? s2.heap.objs.size = some (lobj (its ++ [v]) (n + 1)) := by rw [hnew, List.push_toArray]
        refine ⟨m', hm, i + 1, ys ++ [y], its ++ [v], n + 1, H10, (pinD J2 e11 pD.2.1).weak sub8.1 sub8.2, st11, fr10, r5.append (.cons r10 .nil), ?_, w10⟩
        rw [List.length_append, List.length_singleton]
        exact hlt
  refine codeAny_compStart_list (loop _ rfl) (T.self X.A 0 _ _ _ stn4 (loop _ rfl))

theorem comp_out {pins : List (Addr × Obj)} {σ σ' : St} {H2 H' : Hp} {s2 s' : Shared} {fp : List Addr} {C D : Addr} {its : List Value} {n : Nat} {ys : List V} {N : List Str} {h'' : Heap}
    (I2 : Inv X pins σ H2 s2) (f2 : ∀ b ∈ fp, FpOk X pins H2 b) (I : Inv (compCx X N scope C s2 H2 fp) [(D, lobj its n)] σ' H' s') (r : Vals ys its) (hz : ys.length <= sizeLine) (hD : s2.heap.objs.size <= D) (hs : Heap.SameBut C s'.heap h'') :
    Inv X pins σ (upd H' D (.lst ys)) { s' with heap := h'' } /\ H' D = none := by
  have pD := I.pin (D, lobj its n) (List.mem_append_right _ List.mem_cons_self)
  have hCs : s2.heap.objs.size <= C := I.ok.above
  have hDC : D ≠ C := pD.2.2.1
  have u : Un (frs X.stack) fp H2 H' s2.heap s'.heap := I.base
  have lt2 : ∀ b o, s2.heap.get? b = some o -> b ≠ C /\ b ≠ D := fun b o e => by
    have := Heap.lt_size e
    exact ⟨Nat.ne_of_lt (Nat.lt_of_lt_of_le this hCs), Nat.ne_of_lt (Nat.lt_of_lt_of_le this hD)⟩
  have tD : ∀ b o, H2 b = some o -> b ≠ D := fun b o e z => by
    have := I2.hok.lt e
    rw [z] at this
    exact absurd this (Nat.not_lt.mpr hD)
  have hC' : ∀ b o, H' b = some o -> b ≠ C := fun b o e z => by
    have := I.free
    rw [show (compCx X N scope C s2 H2 fp).env.locals = C from rfl, <- z, e] at this
    cases this
  have hok1 : HOk X.prog X.w H' h'' := fun a o e => (I.hok a o e).stay (fun b ob hb eb => by
      rcases hb with hb | hb
      . rw [hb]; rw [hb] at eb; exact hs.extBut _ _ (hC' a o e) eb
      . exact hs.extBut _ _ (hC' b _ hb) eb) (fun _ h => h) (fun _ _ h => h)
  have oD : h''.get? D = some (lobj its n) := hs.extBut _ _ hDC pD.1
  have hok : HOk X.prog X.w (upd H' D (.lst ys)) h'' := fun a o e => by
    by_cases ha : a = D
    . subst ha
      rw [upd_same] at e
      cases e
      exact ⟨hz, its, n, r, oD⟩
    . rw [upd_ne ha] at e
      refine (hok1 a o e).stay (fun b ob _ eb => eb) (fun b h => ?_) (fun b xs h => ?_)
      . rw [upd_ne (fun z => by rw [z, pD.2.1] at h; cases h)]; exact h
      . rw [upd_ne (fun z => by rw [z, pD.2.1] at h; cases h)]; exact h
  have u2 : Un (frs X.stack) fp H2 (upd H' D (.lst ys)) s2.heap h'' :=
    { keep := fun b o e hn hf hx => hs.extBut b o (lt2 b o e).1 (u.keep b o e hn hf hx)
      slot := fun b o e hn hf hx => by
        obtain ⟨sl, q⟩ := u.slot b o e hn hf hx
        exact ⟨sl, hs.extBut b _ (lt2 b o e).1 q⟩
      free := fun b o e hn hx => by rw [upd_ne (lt2 b o e).2]; exact u.free b o e hn hx
      there := fun b o e hx => by
        obtain ⟨o', q⟩ := u.there b o e hx
        exact ⟨o', hs.extBut b _ (lt2 b o e).1 q⟩
      tups := fun b xs e => by rw [upd_ne (tD b _ e)]; exact u.tups b xs e
      frzs := fun b o v e => by rw [upd_ne (tD b _ e)]; exact u.frzs b o v e
      tbls := fun b ps e => by rw [upd_ne (tD b _ e)]; exact u.tbls b ps e }
  refine ⟨I2.call' (s' := { s' with heap := h'' }) (ch := fp) I.os u2 hok I.bare fun b hb => ?_, pD.2.1⟩
  have q := f2 b hb
  exact ⟨q.2.2.2.1, q.2.1, q.2.2.2.2.1, q.2.2.2.2.2⟩

def tComp (own : List Str) (fr : List Nat) (wi : TI) (g : TG) (tc : TT) (te : TE) : TE := fun σ H Q => wi σ H fun J H1 => ∃ W : Nat -> Nat -> List V -> Hp -> Prop, (∃ m, W 0 m [] H1) /\
  CompTurns J g tc te (own.map (fun _ => none) ++ takeFrom σ fr) (fun ys H' => ∀ p, H' p = none -> Q (.ref p) (upd H' p (.lst ys))) W

theorem pe_comp {wi : TI} {g : TG} {tc : TT} {te : TE} (own free : List Str) (fr : List Nat) (S : CompSc X scope) (hc : X.calm = true) (hfr : fr.map (fun j => X.N[j]?) = free.map some) (hff : ∀ x ∈ free, scope.names.lookup x = some .free)
    (hi : PI X tg iter wi)
    (hg : ∀ C s H ex, PG (compCx X (own ++ free) scope C s H ex) tg g) (ht : ∀ C s H ex, PTs (compCx X (own ++ free) scope C s H ex) ifs tc) (he : ∀ C s H ex, PE (compCx X (own ++ free) scope C s H ex) elt te)
    (hs : ∀ x, foldedSetIterable iter X.env x = pure x := by intro _; rfl) :
    PE X (.ListComp elt [⟨tg, iter, ifs, 0⟩] scope pos) (tComp own fr wi g tc te) := by
  intro pins s σ H Q I h
  have hcl : closureFor scope X.env = pure (closOf X.env scope.names []) := closureFor_of fun x hx e => by
    obtain ⟨c, hc⟩ := I.ok.has x.1 (S.free x hx e)
    rw [hc]; rfl
  rw [eval_ListComp]
  refine wpAny_comprehension_free (use := none) rfl hs hcl S.kind (fun x hx e => by have := lookup_uniq S.nd (show (x.1, x.2) ∈ scope.names from hx); rw [this, e]) (thn (hi pins s σ H _ I h) fun v s1 h1 => thn h1 fun itv s2 h2 => ?_)
  obtain ⟨it, fp, tn, J, H2, e, I2, T, st2, f2, W, ⟨m0, w0⟩, turn⟩ := h2
  subst e
  refine comp_run (RR := fun acc C => compPost (model X.prog X.w) X.A X.xe none (EP X pins σ Q) acc C) S hc hfr hff hg ht he I2 T st2 f2 w0 turn ?_
  intro D C its n ys H' s' I' r hz fin hD
  obtain ⟨m, hm, _⟩ := I'.loc
  refine ⟨m, hm, fun h'' hsb => ?_⟩
  obtain ⟨J', hn⟩ := comp_out I2 f2 I' r hz hD hsb
  exact ⟨.ref D, _, J', rfl, fin D hn⟩

theorem ps_setC {wi : TI} {g : TG} {tc : TT} {te : TE} {i : Nat} {x : Str} {pos' spos : Pos} (own free : List Str) (fr : List Nat) (hN : X.N.Nodup) (hx : X.N[i]? = some x) (hl : X.env.scope.names.lookup x = some .local)
    (S : CompSc X scope) (hc : X.calm = true) (hfr : fr.map (fun j => X.N[j]?) = free.map some) (hff : ∀ x ∈ free, scope.names.lookup x = some .free)
    (hi : PI X tg iter wi)
    (hg : ∀ C s H ex, PG (compCx X (own ++ free) scope C s H ex) tg g) (ht : ∀ C s H ex, PTs (compCx X (own ++ free) scope C s H ex) ifs tc) (he : ∀ C s H ex, PE (compCx X (own ++ free) scope C s H ex) elt te)
    (hsw : swapsWith (.ListComp elt [⟨tg, iter, ifs, 0⟩] scope pos) (some (.Name x pos')) spos.line X.env = pure true := by rfl)
    (hs : ∀ x, foldedSetIterable iter X.env x = pure x := by intro _; rfl) :
    PS X (.Assign [.Name x pos'] (.ListComp elt [⟨tg, iter, ifs, 0⟩] scope pos) spos) (tAsg (tComp own fr wi g tc te) (gName i)) := by
  intro pins s σ H D0 I h
  have hcl : closureFor scope X.env = pure (closOf X.env scope.names []) := closureFor_of fun x hx e => by
    obtain ⟨c, hc⟩ := I.ok.has x.1 (S.free x hx e)
    rw [hc]; rfl
  rw [exec_Assign_Name_used _ _ _ _ hsw]
  refine wpAny_bind (wpAny_standAt (wpAny_bind ?_))
  show wpAny _ X.A (do let _ <- comprehension (.ListComp elt [⟨tg, iter, ifs, 0⟩] scope pos) scope X.env _ (newList []) false (eval iter X.env) (some (assign (.Name x pos') X.env))) _ _ s
  refine wpAny_bind (thn (wpAny_comprehension_free (use := some (assign (.Name x pos') X.env)) (Q := fun _ s' => SP X pins D0 .next s') rfl hs hcl S.kind (fun x hx e => by have := lookup_uniq S.nd (show (x.1, x.2) ∈ scope.names from hx); rw [this, e])
    (thn (hi pins s σ H _ I h) fun v s1 h1 => thn h1 fun itv s2 h2 => ?_)) (fun _ s' hq => wpAny_pure (wpAny_pure hq)))
  obtain ⟨it, fp, tn, J, H2, e, I2, T, st2, f2, W, ⟨m0, w0⟩, turn⟩ := h2
  subst e
  refine comp_run (RR := fun acc C => compPost (model X.prog X.w) X.A X.xe (some (assign (.Name x pos') X.env)) (fun _ s' => SP X pins D0 .next s') acc C) S hc hfr hff hg ht he I2 T st2 f2 w0 turn ?_
  intro D C its n ys H' s' I' r hz fin hD
  obtain ⟨m, hm, _⟩ := I'.loc
  obtain ⟨J', hn⟩ := comp_out I2 f2 I' r hz hD (Heap.SameBut.refl C s'.heap)
  show wpAny _ _ (assign (.Name x pos') X.env (.ref D)) _ _ _
  have hCx : (compCx X (own ++ free) scope C s2 H2 fp).env.locals = C := rfl
  have hCl : C ≠ X.env.locals := by
    have := I2.lt
    have h2 : s2.heap.objs.size <= C := I'.ok.above
    exact Ne.symm (Nat.ne_of_lt (Nat.lt_of_lt_of_le this h2))
  refine wpAny_assign_Name (store_ok2 (s := { s' with heap := s'.heap }) J' hN hx (.inl hl) (show RelV (.ref D) (.ref D) from rfl) (fun s3 I3 ⟨a, sb, ha⟩ => ?_) (.inr hl))
  have haC : C ≠ a := by
    rcases ha with rfl | ha
    . exact hCl
    . intro z
      obtain ⟨v, o, eo, _⟩ := I2.cell x a ha
      have h2 : s2.heap.objs.size <= C := I'.ok.above
      have := Heap.lt_size eo
      rw [<- z] at this
      exact absurd this (Nat.not_lt.mpr h2)
  have nsC : s3.heap.Ns C m := hm.sameBut sb haC
  refine ⟨m, nsC, fun h'' hsb => ?_⟩
  refine ⟨_, _, ?_, fin D hn⟩
  have hC2 : s2.heap.objs.size <= C := I'.ok.above
  -- the block's own names are an object that nothing tracks
  have hCn : (upd H' D (.lst ys)) C = none := by
    rw [upd_ne (fun z => ?_)]
    . exact I'.free
    . exact (I'.pin (D, lobj its n) (List.mem_append_right _ List.mem_cons_self)).2.2.1 z.symm
  have := I3.turned (it := C) (h' := h'') (t' := s3.toks) (fun b o hb e => hsb.extBut b o hb e) hCn hCl (.inr (Nat.le_trans I2.sz hC2)) (fun y c hc z => by
      obtain ⟨v, o, eo, _⟩ := I2.cell y c hc
      have := Heap.lt_size eo
      rw [z] at this
      exact absurd this (Nat.not_lt.mpr hC2)) (fun p hp z => by
      have := Heap.lt_size (I2.pin p hp).1
      rw [z] at this
      exact absurd this (Nat.not_lt.mpr hC2))
  exact this
end
end L2

namespace L2
open PySem PySem.Spec PyProof.Rows

def rangeL (lo : Int) (n : Nat) : List Int := (List.range n).map fun (i : Nat) => lo + (i : Int)
theorem rangeL_get {lo : Int} {n i : Nat} (h : i < n) : (rangeL lo n)[i]? = some (lo + i) := by
  unfold rangeL; rw [List.getElem?_map, List.getElem?_range h]; rfl
theorem rangeL_length (lo : Int) (n : Nat) : (rangeL lo n).length = n := by simp [rangeL]
section
variable {X : Cx}
def CDivB (i j : Int) : Prop := 0 < j /\ j < 2 ^ 250
theorem op_fdivB : OpR X (binaryOp .FloorDiv) (rI CDivB fun i j => .int (i / j)) := opI fun i j t u s Q E h q => by
  have e : i.fdiv j = i / j := Int.fdiv_eq_ediv_of_nonneg i (Int.le_of_lt h.1)
  rw [<- e] at q
  refine floordiv_int (by have := h.1; omega) q (Or.inl (PyProof.noPylong_of_log2 ?_))
  have h2 := h.2
  have hn : j.natAbs < 2 ^ 250 := by have := h.1; omega
  exact Nat.lt_trans (Nat.log2_lt (by have := h.1; omega) |>.mpr hn) (by decide)

theorem items_vals : ∀ {ns : List Int} {us : List Value}, Vals (ns.map V.int) us -> IntsAre us ns
  | [], _, .nil => .nil
  | _ :: _, _, .cons ⟨t, rfl⟩ r => .cons _ _ (items_vals r)
theorem call_maxL (hc : X.calm = true) : CallR X (.builtin "max") (fun xs H Q => ∃ p ns, xs = [.ref p] /\ SqL X.K H p (ns.map V.int) /\ ns ≠ [] /\ ∀ M ∈ ns, (∀ a ∈ ns, a <= M) -> Q (.int M) H) := by
  intro pins s σ H xs us Q I r h
  obtain ⟨p, ns, rfl, hl, hne, q⟩ := h
  obtain ⟨u, rfl, rx⟩ := vals1 r
  cases rx
  obtain ⟨its, r', pl, hz⟩ := I.list hl
  have hi := items_vals r'
  obtain ⟨ys, e⟩ := hi.allInts.items
  have hns : ns = ys.toList.map (·.1) := by rw [<- hi.numsOf, <- nums_intItems, <- e]
  have hsz : 0 < ys.size := by
    rcases Nat.eq_zero_or_pos ys.size with h0 | h0
    . have : ys.toList = [] := by simpa using h0
      rw [this] at hns; exact absurd hns hne
    . exact h0
  have hl' := pl.isList
  rw [e] at hl'
  refine max_intList (I.ok.hd hc) hl' hsz fun v h' tk hv hk => ?_
  obtain ⟨t, rfl⟩ := intItems_at hv
  obtain ⟨h1, h2⟩ := argBest_gt (numAt ys) (ys.size - 1)
  refine ⟨.int _, H, I.kept hk, ⟨t, rfl⟩, q _ ?_ fun a ha => ?_⟩
  . rw [hns, numAt_eq]; exact getD_mem (by rw [List.length_map, Array.length_toList]; omega)
  . rw [hns] at ha
    obtain ⟨j, hj, rfl⟩ := mem_getD ha
    rw [List.length_map, Array.length_toList] at hj
    rw [<- numAt_eq]; exact h2 j (by omega)
theorem call_minL (hc : X.calm = true) : CallR X (.builtin "min") (fun xs H Q => ∃ p ns, xs = [.ref p] /\ SqL X.K H p (ns.map V.int) /\ ns ≠ [] /\ ∀ M ∈ ns, (∀ a ∈ ns, M <= a) -> Q (.int M) H) := by
  intro pins s σ H xs us Q I r h
  obtain ⟨p, ns, rfl, hl, hne, q⟩ := h
  obtain ⟨u, rfl, rx⟩ := vals1 r
  cases rx
  obtain ⟨its, r', pl, hz⟩ := I.list hl
  have hi := items_vals r'
  obtain ⟨ys, e⟩ := hi.allInts.items
  have hns : ns = ys.toList.map (·.1) := by rw [<- hi.numsOf, <- nums_intItems, <- e]
  have hsz : 0 < ys.size := by
    rcases Nat.eq_zero_or_pos ys.size with h0 | h0
    . have : ys.toList = [] := by simpa using h0
      rw [this] at hns; exact absurd hns hne
    . exact h0
  have hl' := pl.isList
  rw [e] at hl'
  refine min_intList (I.ok.hd hc) hl' hsz fun v h' tk hv hk => ?_
  obtain ⟨t, rfl⟩ := intItems_at hv
  obtain ⟨h1, h2⟩ := argBest_lt (numAt ys) (ys.size - 1)
  refine ⟨.int _, H, I.kept hk, ⟨t, rfl⟩, q _ ?_ fun a ha => ?_⟩
  . rw [hns, numAt_eq]; exact getD_mem (by rw [List.length_map, Array.length_toList]; omega)
  . rw [hns] at ha
    obtain ⟨j, hj, rfl⟩ := mem_getD ha
    rw [List.length_map, Array.length_toList] at hj
    rw [<- numAt_eq]; exact h2 j (by omega)

theorem call_isinst : CallR X (.builtin "isinstance") (fun xs H Q => ∃ x c t b, xs = [x, c] /\ TyOf X.K H x t /\ (∀ u, RelV c u -> PySem.W.kitOne X.K t u = some b) /\ Q (.bl b) H) := by
  intro pins s σ H xs us Q I r h
  obtain ⟨x, c, t, b, rfl, ty, e, q⟩ := h
  obtain ⟨u, v, rfl, ru, rv⟩ := vals2 r
  exact isinst_ok I ru ty (e v rv) fun tk => ⟨.bl b, H, I.tok tk, rfl, q⟩
end

structure Has (P : Program) (w : World) (K : PySem.W.Frag) (mg : Str -> Option Value) (base : Heap) (CX : CXT) (x : Str) (k : Nat) (ps : List Str) (sp : Sp) : Prop where
  ex : ∃ f fd, FnOk P w K mg base CX k f fd ps sp /\ Binds K fd ps [] /\ PySem.W.keepIn K (.ref f) = true /\ mg x = some (.ref f)
section
variable {X : Cx} {CX : CXT} {j k : Nat} {ps : List Str} {sp : Sp} {E : XK} {x : Str} {p pos : Pos} {e : Expr} {es : List Expr} {t : TA}
theorem pe_callH (h : Has X.prog X.w X.K X.mg X.base CX x j ps sp) (hr : Room k X.A) (ha : PA X (e :: es) t) (hj : j <= k := by decide) (hg : Gl X x := by rfl) (hx : Passes CX X E := by exact pass0) (hdb : (x == ("__debug__" : Str)) = false := by decide)
    (he : starEach (e :: es) X.env = (false, eval e X.env) :: starEach es X.env := by rfl) (hpl : (backTo pos (starEach es X.env)).any (·.1) = false := by rfl) : PE X (.Call (.Name x p) (e :: es) [] pos) (tCall sp [] E t) := by
  obtain ⟨f, fd, F, b, kp, m⟩ := h.ex
  exact pe_call (F.mono hj) hr hg m kp b .nil hx ha hdb he hpl
end
end L2

namespace L2
open PySem PySem.Spec PyProof.Rows

theorem bb_len : bootBuiltins "len" = some (.builtin "len") := by decide +kernel
theorem bb_abs : bootBuiltins "abs" = some (.builtin "abs") := by decide +kernel
theorem bb_max : bootBuiltins "max" = some (.builtin "max") := by decide +kernel
theorem bb_min : bootBuiltins "min" = some (.builtin "min") := by decide +kernel
theorem bb_sorted : bootBuiltins "sorted" = some (.builtin "sorted") := by decide +kernel
theorem bb_isinstance : bootBuiltins "isinstance" = some (.builtin "isinstance") := by decide +kernel
theorem bb_list : bootBuiltins "list" = some (.type "list") := by decide +kernel
theorem bb_int : bootBuiltins "int" = some (.type "int") := by decide +kernel
theorem bb_bool : bootBuiltins "bool" = some (.type "bool") := by decide +kernel
structure Blt (mg : Str -> Option Value) : Prop where
  len : mg "len" = none
  abs : mg "abs" = none
  max : mg "max" = none
  min : mg "min" = none
  all : mg "all" = none
  any : mg "any" = none
  sum : mg "sum" = none
  sorted : mg "sorted" = none
  isinstance : mg "isinstance" = none
  list : mg "list" = none
  tuple : mg "tuple" = none
  int : mg "int" = none
  bool : mg "bool" = none
  str : mg "str" = none
  set : mg "set" = none
  dict : mg "dict" = none
  zip : mg "zip" = none
  range : mg "range" = none
  enumerate : mg "enumerate" = none
  reversed : mg "reversed" = none
  repr : mg "repr" = none

theorem start0 {N : List Str} {vs : List V} : start N vs = vs.map some ++ List.replicate (N.length - vs.length) none := rfl
end L2
namespace L2
open PySem PySem.Spec PyProof.Rows
def OnlyAt (a : Addr) (H H' : Hp) : Prop := ∀ b, b ≠ a -> H' b = H b
end L2

namespace L2
open PySem PySem.Spec PyProof.Rows

def intOf : Expr -> Option Int
  | .Constant (.int i) _ _ => some i
  | _ => none
theorem intOf_some {e : Expr} {i : Int} (h : intOf e = some i) : ∃ k pos, e = .Constant (.int i) k pos := by
  unfold intOf at h
  split at h
  . cases h; exact ⟨_, _, rfl⟩
  . cases h
def tInts (ks : List Int) : TA := fun _ H Q => Q (ks.map V.int) H
theorem pa_ints {X : Cx} : ∀ (ks : List Int) {es : List Expr}, es.map intOf = ks.map some -> PA X es (tInts ks)
  | [], [], _ => pa_nil
  | k :: ks, e :: es, h => by
    simp only [List.map_cons, List.cons.injEq] at h
    obtain ⟨n, p, rfl⟩ := intOf_some h.1
    have ih := pa_ints (X := X) ks h.2
    intro pos pins s σ H Q I q
    exact pa_cons (X := X) pe_int ih rfl pos pins s σ H Q I q
  | [], _ :: _, h => by simp at h
  | _ :: _, [], h => by simp at h
mutual
def Dat (K : PySem.W.Frag) (H : Hp) : PyData -> V -> Prop
  | .none, v => v = .non
  | .bool b, v => v = .bl b
  | .int i, v => v = .int i
  | .str x, v => v = .str x
  | .list ds, v => ∃ a xs, v = .ref a /\ SqL K H a xs /\ Dats K H ds xs
  | .tuple ds, v => ∃ a xs, v = .ref a /\ SqT K H a xs /\ Dats K H ds xs
  | .dict _, _ => False
def Dats (K : PySem.W.Frag) (H : Hp) : List PyData -> List V -> Prop
  | [], xs => xs = []
  | d :: ds, xs => ∃ x r, xs = x :: r /\ Dat K H d x /\ Dats K H ds r
end
theorem Dats.nil {K : PySem.W.Frag} {H : Hp} : Dats K H [] [] := by unfold Dats; rfl
theorem Dats.cons {K : PySem.W.Frag} {H : Hp} {d : PyData} {ds : List PyData} {x : V} {xs : List V} (a : Dat K H d x) (b : Dats K H ds xs) : Dats K H (d :: ds) (x :: xs) := by unfold Dats; exact ⟨x, xs, rfl, a, b⟩
theorem Dat.i {K : PySem.W.Frag} {H : Hp} {i : Int} : Dat K H (.int i) (.int i) := by unfold Dat; rfl
theorem Dat.s {K : PySem.W.Frag} {H : Hp} {x : Str} : Dat K H (.str x) (.str x) := by unfold Dat; rfl
theorem Dat.b {K : PySem.W.Frag} {H : Hp} {x : Bool} : Dat K H (.bool x) (.bl x) := by unfold Dat; rfl
theorem Dat.n {K : PySem.W.Frag} {H : Hp} : Dat K H .none .non := by unfold Dat; rfl
theorem Dat.tup {K : PySem.W.Frag} {H : Hp} {a : Addr} {xs : List V} {ds : List PyData} (h : SqT K H a xs) (b : Dats K H ds xs) : Dat K H (.tuple ds) (.ref a) := by unfold Dat; exact ⟨a, xs, rfl, h, b⟩
theorem Dat.lst {K : PySem.W.Frag} {H : Hp} {a : Addr} {xs : List V} {ds : List PyData} (h : SqL K H a xs) (b : Dats K H ds xs) : Dat K H (.list ds) (.ref a) := by unfold Dat; exact ⟨a, xs, rfl, h, b⟩
section
variable {X : Cx} {pins : List (Addr × Obj)} {σ : St} {H : Hp} {s : Shared}
mutual
theorem Dat.reads (I : Inv X pins σ H s) : ∀ {d : PyData} {v : V} {u : Value}, Dat X.K H d v -> RelV v u -> ∃ as, Reads s.heap u d as
  | .none, v, u, h, r => by unfold Dat at h; subst h; cases r; exact ⟨_, .none⟩
  | .bool b, v, u, h, r => by unfold Dat at h; subst h; cases r; exact ⟨_, .bool b⟩
  | .int i, v, u, h, r => by unfold Dat at h; subst h; obtain ⟨t, rfl⟩ := r; exact ⟨_, .int i t⟩
  | .str x, v, u, h, r => by unfold Dat at h; subst h; obtain ⟨t, rfl⟩ := r; exact ⟨_, .str x t⟩
  | .list ds, v, u, h, r => by
    unfold Dat at h
    obtain ⟨a, xs, rfl, hl, hd⟩ := h
    cases r
    obtain ⟨its, r', pl, hz⟩ := I.list hl
    obtain ⟨as, q⟩ := Dats.reads I hd r'
    obtain ⟨o, ho, hc, n, hdt⟩ := pl.isList
    exact ⟨_, .list ho hc hdt (by simpa using q)⟩
  | .tuple ds, v, u, h, r => by
    unfold Dat at h
    obtain ⟨a, xs, rfl, hl, hd⟩ := h
    cases r
    obtain ⟨its, r', pl, hz⟩ := I.tuple hl
    obtain ⟨as, q⟩ := Dats.reads I hd r'
    obtain ⟨o, ho, hc, n, hdt⟩ := pl
    exact ⟨_, .tuple ho hc hdt (by simpa using q)⟩
  | .dict _, v, u, h, r => by unfold Dat at h; exact h.elim
theorem Dats.reads (I : Inv X pins σ H s) : ∀ {ds : List PyData} {xs : List V} {us : List Value}, Dats X.K H ds xs -> Vals xs us -> ∃ as, ReadsAll s.heap us ds as
  | [], xs, us, h, r => by unfold Dats at h; subst h; cases r; exact ⟨_, .nil⟩
  | d :: ds, xs, us, h, r => by
    unfold Dats at h
    obtain ⟨x, rs, rfl, h1, h2⟩ := h
    cases r with
    | cons ru rr =>
      obtain ⟨as, q⟩ := Dat.reads I h1 ru
      obtain ⟨bs, q2⟩ := Dats.reads I h2 rr
      exact ⟨_, .cons q q2⟩
end
end

structure EqOk (d : PyData) : Prop where
  lay : d.canLay0 = true
  deep : d.depth <= 60

section
variable {X : Cx} {k : Nat}
theorem op_eqD {cm : Bool} (hr : RoomC cm k X.A) : OpR X (compareOp .Eq) (fun x y H Q => ∃ d d', Dat X.K H d x /\ Dat X.K H d' y /\ EqOk d /\ EqOk d' /\ Q (.bl (PyData.eqv d d')) H) := by
  intro pins s σ H x y v u Q I rx ry h
  obtain ⟨d, d', h1, h2, o1, o2, q⟩ := h
  obtain ⟨as, r1⟩ := h1.reads I rx
  obtain ⟨bs, r2⟩ := h2.reads I ry
  refine SeqAt.compareEq_reads r1 r2 o1.lay o2.lay ?_ ⟨.bl _, H, I, rfl, q⟩
  have := hr.units
  have := o1.deep
  omega
theorem op_neD {cm : Bool} (hr : RoomC cm k X.A) : OpR X (compareOp .NotEq) (fun x y H Q => ∃ d d', Dat X.K H d x /\ Dat X.K H d' y /\ EqOk d /\ EqOk d' /\ Q (.bl (!PyData.eqv d d')) H) := by
  intro pins s σ H x y v u Q I rx ry h
  obtain ⟨d, d', h1, h2, o1, o2, q⟩ := h
  obtain ⟨as, r1⟩ := h1.reads I rx
  obtain ⟨bs, r2⟩ := h2.reads I ry
  refine SeqAt.compareNe_reads r1 r2 o1.lay o2.lay ?_ ⟨.bl _, H, I, rfl, q⟩
  have := hr.units
  have := o1.deep
  omega
end

theorem eqv_self {d : PyData} (h : EqOk d) : PyData.eqv d d = true := SeqAt.eqv_refl d h.lay

section
variable {X : Cx}
end
end L2

namespace L2
open PySem PySem.Spec PyProof.Rows
structure WE (X : Cx) (e : Expr) (t : TE) : Prop where out : PE X e t
structure WT (X : Cx) (e : Expr) (t : TT) : Prop where out : PT X e t
structure WW (X : Cx) (e : Expr) (t : TT) : Prop where out : PW X e t
structure WA (X : Cx) (es : List Expr) (t : TA) : Prop where out : PA X es t
structure WS (X : Cx) (s : Stmt) (t : TS) : Prop where out : PS X s t
structure WSs (X : Cx) (s : List Stmt) (t : TS) : Prop where out : PSs X s t
structure WG (X : Cx) (e : Expr) (t : TG) : Prop where out : PG X e t
structure WGs (X : Cx) (e : List Expr) (t : TGs) : Prop where out : PGs X e t
structure WI (X : Cx) (tg e : Expr) (t : TI) : Prop where out : PI X tg e t
structure WTs (X : Cx) (e : List Expr) (t : TT) : Prop where out : PTs X e t
structure WK (X : Cx) (e : List Keyword) (t : TA) : Prop where out : PK X e t
structure WO (X : Cx) (e : Option Expr) (t : TO) : Prop where out : PO X e t
section
variable {X : Cx} {a b c e o : Expr} {es rest : List Expr} {ta tb tc te to : TE} {t u : TT} {pos pos' p apos cpos p2 : Pos} {tA : TA} {x : Str}
theorem qv (i : Nat) {x : Str} {pos : Pos} (hN : X.N[i]? = some x := by rfl) (hv : Vis X.env.scope x := by first | exact Or.inl rfl | exact Or.inr (Or.inl rfl) | exact Or.inr (Or.inr rfl)) (hd : (x == ("__debug__" : Str)) = false := by decide)
    (hcd : (x == ("__classdict__" : Str)) = false := by decide) : WE X (.Name x pos) (tVar i) := ⟨pe_var hN hv hd hcd⟩
theorem qe_int {i j pos} : WE X (.Constant (.int i) j pos) (tC (.int i)) := ⟨pe_int⟩
theorem qe_bl {b j pos} : WE X (.Constant (.bool b) j pos) (tC (.bl b)) := ⟨pe_bl⟩
theorem qe_non {j pos} : WE X (.Constant .none j pos) (tC .non) := ⟨pe_non⟩
theorem qe_str {x j pos} : WE X (.Constant (.str x) j pos) (tC (.str x)) := ⟨pe_str⟩
theorem qe_glob {x : Str} {v : V} {u : Value} {pos : Pos} (hg : Gl X x) (hm : X.mg x = some u) (r : RelV v u) (hd : (x == ("__debug__" : Str)) = false := by decide) : WE X (.Name x pos) (tC v) := ⟨pe_glob hg hm r hd⟩
theorem qe_bltn {x : Str} {v : V} {u : Value} {pos : Pos} (hg : Gl X x) (hm : X.mg x = none) (hv : bootBuiltins x = some u) (r : RelV v u) (hn : x ≠ "__name__" := by decide) (hd : (x == ("__debug__" : Str)) = false := by decide) : WE X (.Name x pos) (tC v) := ⟨pe_bltn hg hm hv r hn hd⟩
theorem qe_op {op : Operator} {r : R2} (ho : OpR X (binaryOp op) r) (ha : WE X a ta) (hb : WE X b tb) : WE X (.BinOp a op b pos) (tOp r ta tb) := ⟨pe_op ho ha.out hb.out⟩
theorem qe_un {op : UnaryOp} {r : V -> Hp -> VK -> Prop} (ho : UnR X (unaryOp op) r) (ha : WE X a ta) : WE X (.UnaryOp op a pos) (tUn r ta) := ⟨pe_un ho ha.out⟩
theorem qe_cmpR {op : CmpOp} {r : R2} (ho : OpR X (compareOp op) r) (ha : WE X a ta) (hb : WE X b tb) (hm : behindInMarks op b = false) : WE X (.Compare a [op] [b] pos) (tOp r ta tb) := ⟨pe_cmpR ho ha.out hb.out hm⟩
theorem qt_cmpR {op : CmpOp} {r : R2} (ho : OpR X (compareOp op) r) (ha : WE X a ta) (hb : WE X b tb) (hm : behindInMarks op b = false) : WT X (.Compare a [op] [b] pos) (tTest (tOp r ta tb)) := ⟨pt_cmpR ho ha.out hb.out hm⟩
theorem qt_chain {op op' : CmpOp} {r r' : R2} (ho : OpR X (compareOp op) r) (ho' : OpR X (compareOp op') r') (ha : WE X a ta) (hb : WE X b tb) (hc : WE X c tc) (hm : lastMarks [op, op'] [b, c] = false := by with_unfolding_all rfl) : WT X (.Compare a [op, op'] [b, c] pos) (tTest (tChain r r' ta tb tc)) := ⟨pt_chain ho ho' ha.out hb.out hc.out hm⟩
theorem qt_val {t : TE} (h : WE X e t) (he : ∀ whole, isTrue e X.env whole = (do let v <- whole; standAt e.pos; holding [v] (truthy v)) := by intro _; rfl) : WT X e (tB t) := ⟨pt_val h.out he⟩
theorem qw_and1 (ha : WT X a t) : WW X (.BoolOp .And [a] pos) t := ⟨pw_and1 ha.out⟩
theorem qw_or1 (ha : WT X a t) : WW X (.BoolOp .Or [a] pos) t := ⟨pw_or1 ha.out⟩
theorem qw_and (ha : WT X a t) (hb : WW X (.BoolOp .And (b :: rest) pos) u) : WW X (.BoolOp .And (a :: b :: rest) pos) (tAnd t u) := ⟨pw_and ha.out hb.out⟩
theorem qw_or (ha : WT X a t) (hb : WW X (.BoolOp .Or (b :: rest) pos) u) : WW X (.BoolOp .Or (a :: b :: rest) pos) (tOr t u) := ⟨pw_or ha.out hb.out⟩
theorem WW.qt (h : WW X e t) : WT X e t := ⟨h.out.pt⟩
theorem qt_not (ha : WT X a t) : WT X (.UnaryOp .Not a pos) (tNot t) := ⟨pt_not ha.out⟩
theorem qe_one {op} {t : TE} (h : WE X a t) : WE X (.BoolOp op [a] pos) t := ⟨pe_one h.out⟩
theorem qe_and (ha : WE X a ta) (hb : WE X (.BoolOp .And (b :: rest) pos) tb) : WE X (.BoolOp .And (a :: b :: rest) pos) (tAndV ta tb) := ⟨pe_and ha.out hb.out⟩
theorem qe_not (ha : WE X a ta) : WE X (.UnaryOp .Not a pos) (tNotV ta) := ⟨pe_not ha.out⟩
theorem qe_ifExp (hc : WT X c t) (ha : WE X a ta) (hb : WE X b tb) : WE X (.IfExp c a b pos) (tIf t ta tb) := ⟨pe_ifExp hc.out ha.out hb.out⟩
theorem qa_nil : WA X [] tNil := ⟨pa_nil⟩
theorem qa_cons (ha : WE X e te) (hr : WA X es tA) (hs : starEach (e :: es) X.env = (false, eval e X.env) :: starEach es X.env := by rfl) : WA X (e :: es) (tCons te tA) := ⟨pa_cons ha.out hr.out hs⟩
theorem qa_ints (ks : List Int) {es : List Expr} (h : es.map intOf = ks.map some) : WA X es (tInts ks) := ⟨pa_ints ks h⟩
theorem qe_tup {x1} (h : WA X es tA) : WE X (.Tuple es x1 pos) (tTup tA) := ⟨pe_tup h.out⟩
theorem qe_lst (h : WA X es tA) : WE X (.List es pos) (tLst tA) := ⟨pe_lst h.out⟩
theorem qe_ix {r : R2} (hr : IxR X r) (ha : WE X a ta) (hb : WE X b tb) (hs : PlainIx b) : WE X (.Subscript a b pos) (tOp r ta tb) := ⟨pe_ix hr ha.out hb.out hs⟩
theorem qo_none : WO X none tNoPart := ⟨po_none⟩
theorem qo_some (h : WE X e te) : WO X (some e) (tPart te) := ⟨po_some h.out⟩
theorem qe_slice {lo hi : Option Expr} {tl th : TO} {r : V -> Option Int -> Option Int -> Hp -> VK -> Prop} (hr : SlR X r) (he : WE X e te) (hl : WO X lo tl) (hu : WO X hi th) : WE X (.Subscript e (.Slice lo hi none p2) pos) (tSl r te tl th) := ⟨pe_slice hr he.out hl.out hu.out⟩
theorem qe_callB {id : String} {r : List V -> Hp -> VK -> Prop} (hc : CallR X (.builtin id) r) (hg : Gl X x) (hm : X.mg x = none) (hv : bootBuiltins x = some (.builtin id)) (ha : WA X (e :: es) tA) (hn : x ≠ "__name__" := by decide) (hdb : (x == ("__debug__" : Str)) = false := by decide)
    (he : starEach (e :: es) X.env = (false, eval e X.env) :: starEach es X.env := by rfl) (hpl : (backTo pos (starEach es X.env)).any (·.1) = false := by rfl) : WE X (.Call (.Name x p) (e :: es) [] pos) (tCB r tA) := ⟨pe_callB hc hg hm hv ha.out hn hdb he hpl⟩
theorem qe_callTy {T : String} {r : List V -> Hp -> VK -> Prop} (hc : CallR X (.type T) r) (hg : Gl X x) (hm : X.mg x = none) (hv : bootBuiltins x = some (.type T)) (ha : WA X (e :: es) tA) (hn : x ≠ "__name__" := by decide) (hdb : (x == ("__debug__" : Str)) = false := by decide)
    (he : starEach (e :: es) X.env = (false, eval e X.env) :: starEach es X.env := by rfl) (hpl : (backTo pos (starEach es X.env)).any (·.1) = false := by rfl) : WE X (.Call (.Name x p) (e :: es) [] pos) (tCB r tA) := ⟨pe_callTy hc hg hm hv ha.out hn hdb he hpl⟩
theorem qe_callH {CX : CXT} {j k : Nat} {ps : List Str} {sp : Sp} {E : XK} (h : Has X.prog X.w X.K X.mg X.base CX x j ps sp) (hr : Room k X.A) (ha : WA X (e :: es) tA) (hj : j <= k := by decide) (hg : Gl X x := by rfl) (hx : Passes CX X E := by exact pass0) (hdb : (x == ("__debug__" : Str)) = false := by decide)
    (he : starEach (e :: es) X.env = (false, eval e X.env) :: starEach es X.env := by rfl) (hpl : (backTo pos (starEach es X.env)).any (·.1) = false := by rfl) : WE X (.Call (.Name x p) (e :: es) [] pos) (tCall sp [] E tA) := ⟨pe_callH h hr ha.out hj hg hx hdb he hpl⟩
theorem qk_nil : WK X [] tNil := ⟨pk_nil⟩
theorem qk_cons {nm : Option Str} {kpos : Pos} {kws : List Keyword} {tk : TA} (ha : WE X e te) (hr : WK X kws tk) : WK X (⟨nm, e, kpos⟩ :: kws) (tCons te tk) := ⟨pk_cons ha.out hr.out⟩
structure HasK (P : Program) (w : World) (K : PySem.W.Frag) (mg : Str -> Option Value) (base : Heap) (CX : CXT) (x : Str) (k : Nat) (ps : List Str) (sp : Sp) (ks : List Str) (gV : List V -> List V -> List V) : Prop where
  ex : ∃ f fd g, FnOk P w K mg base CX k f fd ps sp /\ KBinds K fd ps ks g gV /\ PySem.W.keepIn K (.ref f) = true /\ mg x = some (.ref f)
theorem qe_fld {f : Str} (he : WE X e ta) (hb : attributeBase e f X.env (eval e X.env) = eval e X.env) : WE X (.Attribute e f pos) (tFld X.K ta f) := ⟨pe_fld he.out hb⟩
theorem qe_bm0 {name : Str} {T id : String} {r : V -> List V -> Hp -> VK -> Prop} (pa : PlainAttrs T) (slot : Slot T name id) (hty : typeOf (.builtin id) = pure (.type "method_descriptor")) (hm : MtR X id r) (ho : WE X o to)
    (hbase : attributeBase o name X.env (eval o X.env) = eval o X.env := by rfl) (hline : (apos.endLine == cpos.line) = true := by rfl) : WE X (.Call (.Attribute o name apos) [] [] cpos) (tBM0 X.K T r to) := ⟨pe_bm0 pa slot hty hm ho.out hbase hline⟩
theorem qe_bm {name : Str} {T id : String} {r : V -> List V -> Hp -> VK -> Prop} (pa : PlainAttrs T) (slot : Slot T name id) (hty : typeOf (.builtin id) = pure (.type "method_descriptor")) (hm : MtR X id r) (ho : WE X o to) (ha : WA X (e :: es) tA)
    (hbase : attributeBase o name X.env (eval o X.env) = eval o X.env := by rfl)
    (hfew : ((backTo cpos (starEach (e :: es) X.env)).all (fun x => !x.1) && (backToKw cpos (keywordEach [] X.env)).all (fun x => x.1.isSome) && decide ((e :: es).length + ([] : List Keyword).length + (if ([] : List Keyword).isEmpty then 0 else 1) < 30)) = true := by rfl)
    (hline : (apos.endLine == cpos.line) = true := by rfl) (hs : starEach (e :: es) X.env = (false, eval e X.env) :: starEach es X.env := by rfl) (hplain : (backTo cpos (starEach es X.env)).any (·.1) = false := by rfl) :
    WE X (.Call (.Attribute o name apos) (e :: es) [] cpos) (tBM X.K T r to tA) := ⟨pe_bm pa slot hty hm ho.out ha.out hbase hfew hline hs hplain⟩
variable {st : Stmt} {sts : List Stmt} {ts us : TS}
theorem qss_nil : WSs X [] tNext := ⟨pss_nil⟩
theorem qss_cons (h1 : WS X st ts) (h2 : WSs X sts us) : WSs X (st :: sts) (tSeq ts us) := ⟨pss_cons h1.out h2.out⟩
theorem qss_one (h1 : WS X st ts) : WSs X [st] ts := ⟨pss_one h1.out⟩
theorem qs_never : WS X st tNever := ⟨ps_never⟩
theorem qs_expr (he : WE X e te) (hs : swapsWith e none pos.line X.env = pure false := by rfl) : WS X (.Expr e pos) (tDrop te) := ⟨ps_expr he.out hs⟩
theorem qs_ret (he : WE X e te) : WS X (.Return (some e) pos) (tRet te) := ⟨ps_ret he.out⟩
theorem qs_if {ba bb : List Stmt} (hc : WT X c t) (ha : WSs X ba ts) (hb : WSs X bb us) : WS X (.If c ba bb pos) (tIfS t ts us) := ⟨ps_if hc.out ha.out hb.out⟩
theorem qs_for {tg iter : Expr} {body : List Stmt} {wi : TI} {g : TG} (hp : PassesOwn (model X.prog X.w) X.A X.env X.xe) (hc : X.calm = true) (hi : WI X tg iter wi) (hg : WG X tg g) (hb : WSs X body ts)
    (hs : ∀ x, foldedSetIterable iter X.env x = pure x := by intro _; rfl) : WS X (.For tg iter body [] pos) (tFor wi g ts) := ⟨ps_for hp hc hi.out hg.out hb.out hs⟩
theorem qg_name {i : Nat} {x : Str} (hN : X.N.Nodup) (hi : X.N[i]? = some x) (hx : Loc X.env.scope x) (hf : X.fn x = true \/ X.env.scope.names.lookup x = some .local := by first | exact .inl rfl | exact .inr rfl | assumption) : WG X (.Name x pos) (gName i) := ⟨pg_name hN hi hx hf⟩
theorem qgs_nil : WGs X [] gNil := ⟨pgs_nil⟩
theorem qgs_cons {g : TG} {gs : TGs} (h1 : WG X e g) (h2 : WGs X es gs) (hs : (assignEach (e :: es) X.env).map (·.2) = assign e X.env :: (assignEach es X.env).map (·.2) := by rfl) : WGs X (e :: es) (gCons g gs) := ⟨pgs_cons h1.out h2.out hs⟩
theorem qg_tup {k : Nat} {gs : TGs} {n : Nat} (hc : X.calm = true) (h : WGs X es gs) (hn : (assignEach es X.env).length = n := by rfl) (hst : (assignEach es X.env).findIdx? (·.1) = none := by rfl) : WG X (.Tuple es k pos) (gTup X.K n gs) := ⟨pg_tup hc h.out hn hst⟩
theorem qg_sub {i : Expr} {ti : TE} {tS : TSet} (ho : WE X o to) (hi : WE X i ti) (hs : PSet X tS)
    (ha : ∀ v, assign (.Subscript o i pos) X.env v = (do
        let ov <- holding [v] (eval o X.env)
        let iv <- holding [v, ov] (eval i X.env)
        standAt pos
        holding [v, ov, iv] (setItem ov iv v)
        release [v, ov, iv] []) := by intro _; rfl) : WG X (.Subscript o i pos) (gSub to ti tS) := ⟨pg_sub ho.out hi.out hs ha⟩
theorem qs_asg {tg : Expr} {g : TG} (he : WE X e te) (hg : WG X tg g) (hs : swapsWithSole [tg] e pos.line X.env = pure false := by rfl) (hw : swappedStores [tg] e X.env = pure none := by rfl) (h1 : (assignEach [tg] X.env).map (·.2) = [assign tg X.env] := by rfl) : WS X (.Assign [tg] e pos) (tAsg te g) := ⟨ps_asg he.out hg.out hs hw h1⟩
theorem qs_set {i : Nat} {x : Str} (hN : X.N.Nodup) (hi : X.N[i]? = some x) (hx : Loc X.env.scope x) (he : WE X e te) (hs : swapsWith e (some (.Name x pos')) pos.line X.env = pure false := by rfl)
    (hf : X.fn x = true \/ X.env.scope.names.lookup x = some .local := by first | exact .inl rfl | exact .inr rfl | assumption) : WS X (.Assign [.Name x pos'] e pos) (tAsg te (gName i)) := ⟨ps_set hN hi hx he.out hs hf⟩
theorem qs_fld {value : Expr} {tv : TE} {f : Str} (ha : WE X o ta) (hv : WE X value tv) (hs : swapsWith value (some (.Attribute o f pos')) pos.line X.env = pure false) : WS X (.Assign [.Attribute o f pos'] value pos) (sFld X.K ta tv f) := ⟨ps_fld ha.out hv.out hs⟩
theorem qi_range1 {tg : Expr} (hg : Gl X "range") (hm : X.mg "range" = none) (ha : WA X [a] tA) (hs : starEach [a] X.env = [(false, eval a X.env)] := by rfl) : WI X tg (.Call (.Name "range" p) [a] [] pos) (iRng1 tA) := ⟨pi_range1 hg hm ha.out hs⟩
theorem qts_nil : WTs X [] tNoT := ⟨pts_nil⟩
theorem qts_one (h : WT X c t) : WTs X [c] t := ⟨pts_one h.out⟩
theorem qe_comp {tg iter elt : Expr} {ifs : List Expr} {scope : Scope} {wi : TI} {g : TG} {tc : TT} {te : TE} (own free : List Str) (fr : List Nat) (S : CompSc X scope) (hc : X.calm = true) (hfr : fr.map (fun j => X.N[j]?) = free.map some) (hff : ∀ x ∈ free, scope.names.lookup x = some .free)
    (hi : WI X tg iter wi) (hg : ∀ C s H ex, WG (compCx X (own ++ free) scope C s H ex) tg g) (ht : ∀ C s H ex, WTs (compCx X (own ++ free) scope C s H ex) ifs tc) (he : ∀ C s H ex, WE (compCx X (own ++ free) scope C s H ex) elt te)
    (hs : ∀ x, foldedSetIterable iter X.env x = pure x := by intro _; rfl) : WE X (.ListComp elt [⟨tg, iter, ifs, 0⟩] scope pos) (tComp own fr wi g tc te) :=
  ⟨pe_comp own free fr S hc hfr hff hi.out (fun C s H ex => (hg C s H ex).out) (fun C s H ex => (ht C s H ex).out) (fun C s H ex => (he C s H ex).out) hs⟩
theorem qs_setC {tg iter elt : Expr} {ifs : List Expr} {scope : Scope} {wi : TI} {g : TG} {tc : TT} {te : TE} {i : Nat} {x : Str} {spos : Pos} (own free : List Str) (fr : List Nat) (hN : X.N.Nodup) (hx : X.N[i]? = some x) (hl : X.env.scope.names.lookup x = some .local)
    (S : CompSc X scope) (hc : X.calm = true) (hfr : fr.map (fun j => X.N[j]?) = free.map some) (hff : ∀ x ∈ free, scope.names.lookup x = some .free)
    (hi : WI X tg iter wi) (hg : ∀ C s H ex, WG (compCx X (own ++ free) scope C s H ex) tg g) (ht : ∀ C s H ex, WTs (compCx X (own ++ free) scope C s H ex) ifs tc) (he : ∀ C s H ex, WE (compCx X (own ++ free) scope C s H ex) elt te)
    (hsw : swapsWith (.ListComp elt [⟨tg, iter, ifs, 0⟩] scope pos) (some (.Name x pos')) spos.line X.env = pure true := by rfl)
    (hs : ∀ x, foldedSetIterable iter X.env x = pure x := by intro _; rfl) : WS X (.Assign [.Name x pos'] (.ListComp elt [⟨tg, iter, ifs, 0⟩] scope pos) spos) (tAsg (tComp own fr wi g tc te) (gName i)) :=
  ⟨ps_setC own free fr hN hx hl S hc hfr hff hi.out (fun C s H ex => (hg C s H ex).out) (fun C s H ex => (ht C s H ex).out) (fun C s H ex => (he C s H ex).out) hsw hs⟩
end
section
variable {X : Cx} (K : PySem.W.Frag)
theorem ix_listK (h : X.K = K := by rfl) : IxR X (rIxL K) := h ▸ ix_list
theorem sl_listK (h : X.K = K := by rfl) : SlR X (rSlL K) := h ▸ sl_list
theorem op_inK (h : X.K = K := by rfl) : OpR X (compareOp .In) (rIn K false) := h ▸ op_in_seq
theorem call_lenK (h : X.K = K := by rfl) : CallR X (.builtin "len") (fun xs H Q => ∃ p ys, xs = [.ref p] /\ (SqL K H p ys \/ SqT K H p ys) /\ Q (.int ys.length) H) := h ▸ call_len_seq
theorem call_listK (h : X.K = K := by rfl) : CallR X (.type "list") (fun xs H Q => ∃ p ys, xs = [.ref p] /\ (SqL K H p ys \/ SqT K H p ys) /\ ∀ l, H l = none -> Q (.ref l) (upd H l (.lst ys))) := h ▸ call_list_of
theorem call_maxK (hc : X.calm = true) (h : X.K = K := by rfl) : CallR X (.builtin "max") (fun xs H Q => ∃ p ns, xs = [.ref p] /\ SqL K H p (ns.map V.int) /\ ns ≠ [] /\ ∀ M ∈ ns, (∀ a ∈ ns, a <= M) -> Q (.int M) H) := h ▸ call_maxL hc
theorem call_minK (hc : X.calm = true) (h : X.K = K := by rfl) : CallR X (.builtin "min") (fun xs H Q => ∃ p ns, xs = [.ref p] /\ SqL K H p (ns.map V.int) /\ ns ≠ [] /\ ∀ M ∈ ns, (∀ a ∈ ns, M <= a) -> Q (.int M) H) := h ▸ call_minL hc
theorem call_isinstK (h : X.K = K := by rfl) : CallR X (.builtin "isinstance") (fun xs H Q => ∃ x c t b, xs = [x, c] /\ TyOf K H x t /\ (∀ u, RelV c u -> PySem.W.kitOne K t u = some b) /\ Q (.bl b) H) := h ▸ call_isinst
theorem op_eqK {k : Nat} {cm : Bool} (hr : RoomC cm k X.A) (h : X.K = K := by rfl) : OpR X (compareOp .Eq) (fun x y H Q => ∃ d d', Dat K H d x /\ Dat K H d' y /\ EqOk d /\ EqOk d' /\ Q (.bl (PyData.eqv d d')) H) := h ▸ op_eqD hr
theorem op_neK {k : Nat} {cm : Bool} (hr : RoomC cm k X.A) (h : X.K = K := by rfl) : OpR X (compareOp .NotEq) (fun x y H Q => ∃ d d', Dat K H d x /\ Dat K H d' y /\ EqOk d /\ EqOk d' /\ Q (.bl (!PyData.eqv d d')) H) := h ▸ op_neD hr
variable {a e o : Expr} {es : List Expr} {ta te to : TE} {tA : TA} {pos pos' apos cpos : Pos}
theorem qg_tupK {k : Nat} {gs : TGs} {n : Nat} (hc : X.calm = true) (hg : WGs X es gs) (h : X.K = K := by rfl) (hn : (assignEach es X.env).length = n := by rfl) (hst : (assignEach es X.env).findIdx? (·.1) = none := by rfl) : WG X (.Tuple es k pos) (gTup K n gs) := h ▸ qg_tup hc hg hn hst
theorem qe_fldK {f : Str} (he : WE X e ta) (h : X.K = K := by rfl) (hb : attributeBase e f X.env (eval e X.env) = eval e X.env := by rfl) : WE X (.Attribute e f pos) (tFld K ta f) := h ▸ qe_fld he hb
theorem qs_fldK {value : Expr} {tv : TE} {f : Str} (ha : WE X o ta) (hv : WE X value tv) (h : X.K = K := by rfl) (hs : swapsWith value (some (.Attribute o f pos')) pos.line X.env = pure false := by rfl) : WS X (.Assign [.Attribute o f pos'] value pos) (sFld K ta tv f) := h ▸ qs_fld ha hv hs
theorem qe_bmK {name : Str} {T id : String} {r : V -> List V -> Hp -> VK -> Prop} (pa : PlainAttrs T) (slot : Slot T name id) (hty : typeOf (.builtin id) = pure (.type "method_descriptor")) (hm : MtR X id r) (ho : WE X o to) (ha : WA X (e :: es) tA) (h : X.K = K := by rfl)
    (hbase : attributeBase o name X.env (eval o X.env) = eval o X.env := by rfl)
    (hfew : ((backTo cpos (starEach (e :: es) X.env)).all (fun x => !x.1) && (backToKw cpos (keywordEach [] X.env)).all (fun x => x.1.isSome) && decide ((e :: es).length + ([] : List Keyword).length + (if ([] : List Keyword).isEmpty then 0 else 1) < 30)) = true := by rfl)
    (hline : (apos.endLine == cpos.line) = true := by rfl) (hs : starEach (e :: es) X.env = (false, eval e X.env) :: starEach es X.env := by rfl) (hplain : (backTo cpos (starEach es X.env)).any (·.1) = false := by rfl) :
    WE X (.Call (.Attribute o name apos) (e :: es) [] cpos) (tBM K T r to tA) := h ▸ qe_bm pa slot hty hm ho ha hbase hfew hline hs hplain
end
def valInt : Value -> Option Int
  | .int i _ => some i
  | _ => none
theorem rel_valInt {u : Value} {i : Int} (h : valInt u = some i) : RelV (.int i) u := by
  cases u <;> simp [valInt] at h
  subst h; exact ⟨_, rfl⟩
section
variable {P : Program} {w : World} {K : PySem.W.Frag} {mg : Str -> Option Value} {base : Heap}
theorem Fun.okq {x qual : Str} {st : Stmt} {f : Addr} {fd : FuncData} {N ps : List Str} {k : Nat} {sp : Sp} (F : Fun K x qual st f fd) (S : FnScope N ps (defScope st)) (len : ∀ vs H Q E, sp vs H Q E -> vs.length = ps.length)
    (hbody : ∀ (cdv : Value) (A : Around) (outer : List Env) (s : Shared) (H : Hp) (vs : List V) (Q : VK) (E : XK), Room k (A.deeper (envOfC qual (defScope st) s.heap.objs.size f cdv)) -> sp vs H Q E ->
      ∃ t, WSs (cxOf CX0 P w K mg base N qual (defScope st) f cdv A outer s H E).nox (defBody st) t /\ t { nx := fun _ H' => Q .non H', rt := Q } (start N vs) H) : FnOk P w K mg base CX0 (k + 1) f fd ps sp :=
  F.ok S len fun cdv A outer s H vs Q E hr h => by
    obtain ⟨t, ht, q⟩ := hbody cdv A outer s H vs Q E hr h
    exact ⟨t, ht.out, q⟩
end
end L2

namespace L2
open PySem PySem.Spec PyProof.Rows
section
variable {X : Cx} {tg : Expr}
end
end L2

namespace L2
open PySem PySem.Spec PyProof.Rows
section
variable {X : Cx} (K : PySem.W.Frag)
end
section
variable {X : Cx}
theorem op_mul_str : OpR X (binaryOp .Mult) (fun x y H Q => ∃ c n, x = .str ⟨#[c]⟩ /\ y = .int n /\ 0 <= n /\ n <= 1000 /\ ∀ z : Str, z.cps.toList = List.replicate n.toNat c -> Q (.str z) H) := by
  intro pins s σ H x y v u Q I rx ry h
  obtain ⟨c, n, rfl, rfl, h0, h1, q⟩ := h
  obtain ⟨t, rfl⟩ := rx
  obtain ⟨t', rfl⟩ := ry
  refine SB.mul ⟨?_, ?_, ?_⟩ fun t' k => ⟨.str _, H, I.tok k, ⟨t', rfl⟩, q _ (mul_one_list c n)⟩
  . rw [decide_eq_false (by omega), decide_eq_false (by omega)]; rfl
  . intro a _
    have e : (⟨#[c]⟩ : Str).length = 1 := rfl
    rw [e]
    have : 1 <= (2 ^ 63 - 1) / n := Int.le_ediv_of_mul_le (by omega) (by omega)
    omega
  . intro a _
    have e : (⟨#[c]⟩ : Str).length = 1 := rfl
    rw [e]
    unfold PySem.Builtin.Str.tooLong
    simp only [Nat.one_mul, decide_eq_false_iff_not]
    have : n.toNat <= 1000 := by omega
    first
      | omega
      | (intro z; have := Nat.lt_of_lt_of_le z this; revert this; decide)
end
end L2

namespace L2
open PySem PySem.Spec PyProof.Rows
def DrawAt (H : Hp) (a l : Addr) : Prop := ∃ (ns : List Int) (i b c : Int), H a = some (.lst [.ref l, .int i, .int b, .int c]) /\ H l = some (.lst (ns.map V.int)) /\ 0 <= i /\ 0 <= b /\ a ≠ l
def spDrawL : Sp := fun vs H Q _ => ∃ (a l : Addr) (many : Int), vs = [.ref a, .int many] /\ DrawAt H a l /\ 0 < many /\ many < 2 ^ 250 /\ ∀ v H', 0 <= v -> v < many -> DrawAt H' a l -> OnlyAt a H H' -> Q (.int v) H'
def spStartL (K : PySem.W.Frag) : Sp := fun vs H Q _ => ∃ (a : Addr) (ns : List Int), vs = [.ref a] /\ SqL K H a (ns.map V.int) /\ ∀ (r l : Addr) (H' : Hp), H r = none -> H l = none -> DrawAt H' r l -> Same H H' -> Q (.ref r) H'
structure LR where
  a : Addr
  sa : Addr
  ea : Addr
  nm : Str
  S : List Str
  E : List Str
  w : Int
section
variable {κ : Addr -> Nat} {H H' : Hp} {s l na la : Addr} {ns ns' : List Str} {ls : List LR}
end
end L2

namespace L2
open PySem PySem.Spec PyProof.Rows
def sig (ls : List LR) : List (Str × Int) := ls.map fun r => (r.nm, r.w)
def Joins (ls : List LR) (one x two : Str) : Prop := ∃ r ∈ ls, r.nm = x /\ one ∈ r.S /\ two ∈ r.E
def beside (ho ga bd : List Str) : Nat := (bd.filter fun x => !decide (x ∈ ho ++ ga)).length
structure Way (ho ga ns : List Str) (ls : List LR) (bd : List Str) (first : Str) (k m : Nat) (wh : List Str) : Prop where
  len : wh.length = 2 * k + 1
  hd : wh[0]? = some first
  nd : wh.Nodup
  jn : ∀ i x y z, wh[2 * i]? = some x -> wh[2 * i + 1]? = some y -> wh[2 * i + 2]? = some z -> Joins ls x y z
  ln : ∀ i y, wh[2 * i + 1]? = some y -> y ∉ ho ++ ga /\ y ∉ bd
  gt : ∀ i x, 2 * i + 2 < m -> wh[2 * i + 2]? = some x -> x ∈ ga /\ x ∉ bd
  nn : ∀ i x, wh[2 * i]? = some x -> x ∈ ho ++ ga
  sub : ∀ y ∈ wh, y ∈ ns
  bs : beside ho ga wh <= k
theorem Way.one {ho ga ns : List Str} {ls : List LR} {bd : List Str} {first : Str} (h : first ∈ ho ++ ga) (hn : first ∈ ns) : Way ho ga ns ls bd first 0 1 [first] where
  len := rfl
  hd := rfl
  nd := by simp
  jn := fun i x y z _ e _ => by rw [List.getElem?_eq_none (by show 1 <= _; omega)] at e; cases e
  ln := fun i y e => by rw [List.getElem?_eq_none (by show 1 <= _; omega)] at e; cases e
  gt := fun i y hm e => by omega
  nn := fun i x e => by
    have : i = 0 := Classical.byContradiction fun z => by rw [List.getElem?_eq_none (by show 1 <= _; omega)] at e; cases e
    subst this
    cases e
    exact h
  sub := fun y hy => by rw [List.mem_singleton.mp hy]; exact hn
  bs := by unfold beside; rw [List.filter_cons, if_neg (by rw [decide_eq_true h]; decide)]; exact Nat.le_refl _
def lineSum (ls : List LR) (way : List Str) (lo sl : Int) : Int := ls.foldl (fun m r => if r.nm ∈ way then m + lo + r.w + sl else m) 0
def needF (ls : List LR) (ways : List (List Str)) (lo sl : Int) : Int := ways.foldl (fun m way => if lineSum ls way lo sl > m then lineSum ls way lo sl else m) 0
structure RW where
  nm : Str
  ways : List (List Str)
  e : Int
  lo : Int
  re : Int
  lst : Int
def inner (w : List Str) : List Str := (w.drop 1).take (w.length - 2)
def everies : List Int := [12, 8, 20, 24, 10, 30, 15, 40, 60, 12, 120]
structure RowOk (ho ga ns : List Str) (ls : List LR) (sl : Int) (r : RW) : Prop where
  nmn : r.nm ∈ ns
  nmo : r.nm ∉ ho ++ ga ++ ls.map LR.nm
  way : ∃ first last w1 k1, first ∈ ho /\ last ∈ ho /\ first ≠ last /\ 1 <= k1 /\ k1 <= 3 /\ Way ho ga ns ls [] first k1 (2 * k1) w1 /\ w1[2 * k1]? = some last /\ (r.ways = [w1] \/ ∃ w2 k2, r.ways = [w1, w2] /\ 1 <= k2 /\ k2 <= 3 /\ Way ho ga ns ls (inner w1) first k2 (2 * k2) w2 /\ w2[2 * k2]? = some last)
  ev : r.e ∈ everies
  l1 : 1 <= r.lo
  l4 : r.lo <= 4
  le : r.lo + sl <= r.e
  r0 : 0 <= r.re
  re : r.re < r.e
  lst : ∃ spare, r.lst = needF ls r.ways r.lo sl + spare /\ spare ∈ [0, 1, 2, r.e / 2, 3, r.e - 1, 6]
theorem RowOk.sub {ho ga ns : List Str} {ls : List LR} {sl : Int} {r : RW} (R : RowOk ho ga ns ls sl r) : ∀ way ∈ r.ways, ∀ y ∈ way, y ∈ ns := by
  obtain ⟨first, last, w1, k1, _, _, _, _, _, Y, _, h⟩ := R.way
  intro way hw
  rcases h with e | ⟨w2, k2, e, _, _, Y2, _⟩
  . rw [e] at hw; rw [List.mem_singleton.mp hw]; exact Y.sub
  . rw [e] at hw
    rcases List.mem_cons.mp hw with rfl | hw
    . exact Y.sub
    . rw [List.mem_singleton.mp hw]; exact Y2.sub
end L2

namespace L2
open PySem PySem.Spec PyProof.Rows
def stepS (σ : List Str) (v : Str) : List Str := if σ.any (· == v) = true then σ else σ ++ [v]
def manyS (ys : List Str) : Nat := (ys.foldl stepS []).length
section
variable {prog : Program} {w : World} {A : Around} {R : Result -> Shared -> Prop} {I : Addr} {fp wr : List Addr} {G : Array GenState -> Array GenState -> Prop} {n : Nat} {P : Nat -> Value -> Prop} {St : Nat -> Shared -> Prop}
end
end L2
namespace PySem
open PyProof.Rows
section
variable {prog : Program} {w : World} {A : Around} {E : Value -> Shared -> Prop} {s : Shared}
end
end PySem

namespace L2
open PySem PySem.Spec PyProof.Rows
section
variable {X : Cx} (K : PySem.W.Frag)
end
def Its (x : Str) : It := ⟨fun i _ => i < x.cps.size, fun i H v H' => H' = H /\ ∃ c, x.cps.toList[i]? = some c /\ v = .str ⟨#[c]⟩, fun i _ => x.cps.size <= i⟩
theorem turn_str {P : Program} {w : World} {K : PySem.W.Frag} {tg : Expr} (it : Addr) (x : Str) (t : Tok) : Turn P w K tg (Its x) [it] it (fun i h => h.IsStrIter it "str_ascii_iterator" x t i) where
  mem := by simp
  obj := fun i h st b hb => by
    have e : b = it := by simpa using hb
    subst e
    obtain ⟨o, e, c, d⟩ := st
    exact ⟨o, e, fun v z => by rw [d] at z; cases z⟩
  keep := fun i h h' st k => let ⟨o, ho, r⟩ := st; ⟨o, k it (by simp) o ho, r⟩
  item := by
    intro X hP hw hK hc i pins s σ H E I hf st hg
    subst hP hw hK
    obtain ⟨f0, f1, f2, f3, f4, f5⟩ := hf it (by simp)
    have W := Walks.strAscii (prog := X.prog) (w := X.w) (I.ok.hd hc) it x t
    refine W.item i s _ _ hg st fun v h' tk hv st' kk => ?_
    obtain ⟨c, u, hcu, rfl⟩ := hv
    have I1 : Inv X pins σ H { s with heap := h', toks := tk } := I.turned (fun b o hb e => kk b o (by simpa using hb) e) f0 f1 f3 f4 f5
    obtain ⟨o, e, c', d⟩ := id st'
    exact ⟨_, rfl, go_of (s := { s with heap := h', toks := tk }) e c' d (by decide) ⟨.str ⟨#[c]⟩, H, I1, ⟨u, rfl⟩, ⟨rfl, c, by rw [Array.getElem?_toList]; exact hcu, rfl⟩, st', fun b hb => (hf b hb).1⟩⟩
  done := by
    intro X hP hw hK hc i pins s σ H E I hf st hg
    subst hP hw hK
    obtain ⟨f0, f1, f2, f3, f4, f5⟩ := hf it (by simp)
    exact wpAny_pyNext_ascii_end (I.ok.hd hc) st (Array.getElem?_eq_none hg) fun h' eb => ⟨rfl, I.turned (t' := s.toks) (fun b o hb e => eb b o hb e) f0 f1 f3 f4 f5⟩
  self := fun _ _ _ _ _ st h => wpAny_pyIter_striter_ascii st h
section
variable {X : Cx} {tg : Expr}
end
section
variable {X : Cx} {CX : CXT} {k : Nat} {f C : Addr} {fd : FuncData} {ps ks : List Str} {sp : Sp} {E : XK} {x : Str} {p pos : Pos} {e : Expr} {es : List Expr} {kws : List Keyword} {t tk : TA} {g : List Value -> List Value -> List Value} {gV : List V -> List V -> List V}
theorem run_makeK {pins : List (Addr × Obj)} {σ : St} {H : Hp} {s : Shared} {Q : VK} {us ws : List Value} {vs zs : List V} (M : Mk X.K C f) (F : FnOk X.prog X.w X.K X.mg X.base CX k f fd ps sp) (hr : Room (k + 1) X.A) (hb : KBinds X.K fd ps ks g gV)
    (hx : Passes CX X E) (I : Inv X pins σ H s) (r : Vals vs us) (rz : Vals zs ws)
    (h : ∀ x dx, H x = none -> H dx = none -> dx ≠ x -> sp (gV (.ref x :: vs) zs) (upd (upd H dx (.own x)) x (.ins C dx [])) (fun v H2 => v = .non /\ Q (.ref x) H2) E) :
    wpAny (model X.prog X.w) X.A (call (.ref C) us (ks.zip ws)) (EP X pins σ Q) X.xe s := by
  have hq := h (s.heap.objs.size + 1) s.heap.objs.size (I.hok.fresh (Nat.le_succ _)) (I.hok.fresh (Nat.le_refl _)) (Nat.ne_of_lt (Nat.lt_succ_self _))
  have I2 := Inv.made (C := C) I
  have r2 : Vals (gV (V.ref (s.heap.objs.size + 1) :: vs) zs) (g (Value.ref (s.heap.objs.size + 1) :: us) ws) := hb.rel (.cons rfl r) rz
  have hl : (g (Value.ref (s.heap.objs.size + 1) :: us) ws).length = ps.length := by rw [<- r2.length]; exact F.len _ _ _ _ hq
  refine wpAny_call (make_map (f := f) I.kIn M.makes M.init (beq_iff_eq.mp M.fn) (codeAny_mono (F.run _ X.stack _ _ ⟨Value.ref (s.heap.objs.size + 1) :: us, ks.zip ws⟩ _ _ _ E (hr.make C us (ks.zip ws))
    (I2.env0.make C us (ks.zip ws)) (hb.to _ (Value.ref (s.heap.objs.size + 1) :: us) ws I2.kIn hl) r2 hq) fun r s' hq' => ?_))
  cases r with
  | error e => exact hx pins σ _ _ e s' I2 hq'
  | ok fl =>
    cases fl with
    | ret u =>
      obtain ⟨v, H', I3, rv, ev, q3⟩ := I2.after hq'
      subst ev
      exact ⟨rv, ⟨V.ref (s.heap.objs.size + 1), H', I3, rfl, q3⟩⟩
    | next => exact False.elim hq'
    | brk => exact False.elim hq'
    | cont => exact False.elim hq'
end
section
variable {X : Cx} {CX : CXT}
end
end L2

namespace L2
open PySem PySem.Spec PyProof.Rows
inductive D where
  | non | bl (b : Bool) | int (i : Int) | str (x : Str) | ty (n : String)
  | cls (c : Str) | scr (ns : List Int) | cell (k : Nat)
  | tup (ds : List D) | lst (ds : List D)
  | dct (ks : List Key) (vs : List D) | dtt (ks : List (List Key)) (vs : List D)
  | obj (c : Str) (ns : List Str) (vs : List D)
  | exc (c : Str)
inductive Ct where
  | lst (ds : List D) | dct (ks : List Key) (vs : List D) | dtt (ks : List (List Key)) (vs : List D)
  | ins (c : Str) (ns : List Str) (vs : List D) | draw
  | fdct (o : Obj) (ks : List Key) (vs : List D) | fdtt (o : Obj) (ks : List (List Key)) (vs : List D)
def clsOf (K : PySem.W.Frag) (c : Str) : Option Addr := match PySem.W.nsIn K mainGlobals c with
  | some (some (.ref C)) => some C
  | _ => none
def ExcO (a C : Addr) (dx : Option Addr) : HO := .ext fun h => ∃ ox, h.get? a = some ox /\ ox.cls = .ref C /\ ox.dict = dx /\ PySem.W.notCls ox = true
structure Wd where
  b : Nat -> Option Addr
  F : Hp
structure Wd.le (W W' : Wd) : Prop where
  b : ∀ k a, W.b k = some a -> W'.b k = some a
  F : Same W.F W'.F
theorem Wd.le.refl (W : Wd) : W.le W := ⟨fun _ _ h => h, fun _ _ h => h⟩
theorem Wd.le.trans {W W' W'' : Wd} (a : W.le W') (b : W'.le W'') : W.le W'' := ⟨fun k x h => b.b k x (a.b k x h), fun k x h => b.F k x (a.F k x h)⟩
abbrev Mu := Nat -> Option Ct
abbrev DEnv := List (Option D)
def mset (μ : Mu) (k : Nat) (c : Ct) : Mu := fun j => if j = k then some c else μ j
def mdel (μ : Mu) (k : Nat) : Mu := fun j => if j = k then none else μ j
theorem mset_same {μ : Mu} {k : Nat} {c : Ct} : mset μ k c k = some c := if_pos rfl
theorem mset_ne {μ : Mu} {k j : Nat} {c : Ct} (h : j ≠ k) : mset μ k c j = μ j := if_neg h
theorem mset_mset {μ : Mu} {k : Nat} {c c' : Ct} : mset (mset μ k c) k c' = mset μ k c' := by funext j; unfold mset; split <;> rfl
theorem mdel_mset {μ : Mu} {k : Nat} {c : Ct} (h : μ k = none) : mdel (mset μ k c) k = μ := by
  funext j; unfold mset mdel
  by_cases e : j = k
  . subst e; rw [if_pos rfl, h]
  . show (if j = k then none else if j = k then some c else μ j) = μ j
    rw [if_neg e, if_neg e]
def MLe (μ μ' : Mu) : Prop := ∀ k c, μ k = some c -> μ' k = some c
theorem MLe.refl (μ : Mu) : MLe μ μ := fun _ _ h => h
theorem MLe.mset {μ : Mu} {k : Nat} {c : Ct} (h : μ k = none) : MLe μ (L2.mset μ k c) := fun j d e => by
  rw [mset_ne (fun z => by subst z; rw [h] at e; cases e)]; exact e
theorem same_upd {H : Hp} {p : Addr} {o : HO} (h : H p = none) : Same H (upd H p o) := fun b u q => by rw [upd_ne (ne_of_none q h)]; exact q
theorem Rd.sm {F F' : Hp} {a : Addr} {o : HO} (s : Same F F') (h : Rd F a o) : Rd F' a o := by
  rcases h with h | ⟨u, h⟩
  . exact .inl (s _ _ h)
  . exact .inr ⟨u, s _ _ h⟩
theorem SqL.sm {K : PySem.W.Frag} {F F' : Hp} {a : Addr} {xs : List V} (s : Same F F') (h : SqL K F a xs) : SqL K F' a xs := h.imp (Rd.sm s) id
theorem SqT.sm {K : PySem.W.Frag} {F F' : Hp} {a : Addr} {xs : List V} (s : Same F F') (h : SqT K F a xs) : SqT K F' a xs := h.imp (Rd.sm s) id
mutual
def Rep (K : PySem.W.Frag) (W : Wd) : D -> V -> Prop
  | .non, v => v = .non
  | .bl b, v => v = .bl b
  | .int i, v => v = .int i
  | .str x, v => v = .str x
  | .ty n, v => v = .ty n
  | .cls c, v => ∃ C, clsOf K c = some C /\ v = .ref C
  | .scr ns, v => ∃ a, v = .ref a /\ SqL K W.F a (ns.map V.int)
  | .cell k, v => ∃ a, v = .ref a /\ W.b k = some a
  | .tup ds, v => ∃ a xs, v = .ref a /\ SqT K W.F a xs /\ Reps K W ds xs
  | .lst ds, v => ∃ a xs, v = .ref a /\ W.F a = some (.lst xs) /\ Reps K W ds xs
  | .dct ks vs, v => ∃ a xs, v = .ref a /\ W.F a = some (.dK (ks.zip xs)) /\ ks.length = xs.length /\ Reps K W vs xs
  | .dtt ks vs, v => ∃ a xs, v = .ref a /\ W.F a = some (.dT (ks.zip xs)) /\ ks.length = xs.length /\ Reps K W vs xs
  | .obj c ns vs, v => ∃ C a dx xs, clsOf K c = some C /\ v = .ref a /\ W.F a = some (.ins C dx (ns.zip xs)) /\ ns.length = xs.length /\ Reps K W vs xs
  | .exc c, v => ∃ C a, clsOf K c = some C /\ v = .ref a /\ W.F a = some (ExcO a C none)
def Reps (K : PySem.W.Frag) (W : Wd) : List D -> List V -> Prop
  | [], xs => xs = []
  | d :: ds, xs => ∃ x r, xs = x :: r /\ Rep K W d x /\ Reps K W ds r
end
section
variable {K : PySem.W.Frag} {fl : Wd} {W W' : Wd}
mutual
theorem Rep.mono (h : W.le W') : ∀ {d : D} {x : V}, Rep K W d x -> Rep K W' d x
  | .non, _, r => by unfold Rep at *; exact r
  | .bl _, _, r => by unfold Rep at *; exact r
  | .int _, _, r => by unfold Rep at *; exact r
  | .str _, _, r => by unfold Rep at *; exact r
  | .ty _, _, r => by unfold Rep at *; exact r
  | .cls _, _, r => by unfold Rep at *; exact r
  | .scr _, _, r => by unfold Rep at *; obtain ⟨a, e, q⟩ := r; exact ⟨a, e, q.sm h.F⟩
  | .cell _, _, r => by unfold Rep at *; obtain ⟨a, e, q⟩ := r; exact ⟨a, e, h.b _ _ q⟩
  | .tup _, _, r => by unfold Rep at *; obtain ⟨a, xs, e, q, z⟩ := r; exact ⟨a, xs, e, q.sm h.F, Reps.mono h z⟩
  | .lst _, _, r => by unfold Rep at *; obtain ⟨a, xs, e, q, z⟩ := r; exact ⟨a, xs, e, h.F _ _ q, Reps.mono h z⟩
  | .dct _ _, _, r => by unfold Rep at *; obtain ⟨a, xs, e, q, l, z⟩ := r; exact ⟨a, xs, e, h.F _ _ q, l, Reps.mono h z⟩
  | .dtt _ _, _, r => by unfold Rep at *; obtain ⟨a, xs, e, q, l, z⟩ := r; exact ⟨a, xs, e, h.F _ _ q, l, Reps.mono h z⟩
  | .obj _ _ _, _, r => by unfold Rep at *; obtain ⟨C, a, dx, xs, hc, e, q, l, z⟩ := r; exact ⟨C, a, dx, xs, hc, e, h.F _ _ q, l, Reps.mono h z⟩
  | .exc _, _, r => by unfold Rep at *; obtain ⟨C, a, hc, e, q⟩ := r; exact ⟨C, a, hc, e, h.F _ _ q⟩
theorem Reps.mono (h : W.le W') : ∀ {ds : List D} {xs : List V}, Reps K W ds xs -> Reps K W' ds xs
  | [], _, r => by unfold Reps at *; exact r
  | _ :: _, _, r => by unfold Reps at *; obtain ⟨x, t, e, q, z⟩ := r; exact ⟨x, t, e, Rep.mono h q, Reps.mono h z⟩
end
theorem Reps.nil : Reps K W [] [] := by unfold Reps; rfl
theorem Reps.cons {d : D} {ds : List D} {x : V} {xs : List V} (a : Rep K W d x) (b : Reps K W ds xs) : Reps K W (d :: ds) (x :: xs) := by unfold Reps; exact ⟨x, xs, rfl, a, b⟩
theorem Reps.nil' {xs : List V} (h : Reps K W [] xs) : xs = [] := by unfold Reps at h; exact h
theorem Reps.uncons {d : D} {ds : List D} {xs : List V} (h : Reps K W (d :: ds) xs) : ∃ x r, xs = x :: r /\ Rep K W d x /\ Reps K W ds r := by unfold Reps at h; exact h
theorem Reps.length : ∀ {ds : List D} {xs : List V}, Reps K W ds xs -> xs.length = ds.length
  | [], _, h => by rw [h.nil']; rfl
  | _ :: _, _, h => by obtain ⟨x, r, rfl, _, q⟩ := h.uncons; rw [List.length_cons, List.length_cons, q.length]
theorem Reps.get : ∀ {ds : List D} {xs : List V} {i : Nat} {d : D}, Reps K W ds xs -> ds[i]? = some d -> ∃ x, xs[i]? = some x /\ Rep K W d x
  | [], _, _, _, _, e => by simp at e
  | _ :: _, _, 0, _, h, e => by obtain ⟨x, r, rfl, q, _⟩ := h.uncons; simp at e; subst e; exact ⟨x, rfl, q⟩
  | _ :: _, _, i + 1, d, h, e => by obtain ⟨x, r, rfl, _, q⟩ := h.uncons; simpa using q.get (i := i) (d := d) (by simpa using e)
theorem Reps.append : ∀ {ds es : List D} {xs ys : List V}, Reps K W ds xs -> Reps K W es ys -> Reps K W (ds ++ es) (xs ++ ys)
  | [], _, _, _, h, g => by rw [h.nil']; exact g
  | _ :: _, _, _, _, h, g => by obtain ⟨x, r, rfl, q, z⟩ := h.uncons; exact .cons q (z.append g)
theorem Reps.take : ∀ {ds : List D} {xs : List V} (n : Nat), Reps K W ds xs -> Reps K W (ds.take n) (xs.take n)
  | _, _, 0, _ => by simp [Reps.nil]
  | [], _, _ + 1, h => by rw [h.nil']; exact .nil
  | _ :: _, _, n + 1, h => by obtain ⟨x, r, rfl, q, z⟩ := h.uncons; exact .cons q (z.take n)
theorem Reps.drop : ∀ {ds : List D} {xs : List V} (n : Nat), Reps K W ds xs -> Reps K W (ds.drop n) (xs.drop n)
  | _, _, 0, h => h
  | [], _, _ + 1, h => by rw [h.nil']; exact .nil
  | _ :: _, _, n + 1, h => by obtain ⟨x, r, rfl, q, z⟩ := h.uncons; exact z.drop n
theorem Reps.set : ∀ {ds : List D} {xs : List V} {d : D} {x : V} (n : Nat), Reps K W ds xs -> Rep K W d x -> Reps K W (ds.set n d) (xs.set n x)
  | [], _, _, _, _, h, _ => by rw [h.nil']; exact .nil
  | _ :: _, _, _, _, 0, h, g => by obtain ⟨x, r, rfl, q, z⟩ := h.uncons; exact .cons g z
  | _ :: _, _, _, _, n + 1, h, g => by obtain ⟨x, r, rfl, q, z⟩ := h.uncons; exact .cons q (z.set n g)
theorem Reps.ints : ∀ {ns : List Int} {xs : List V}, Reps K W (ns.map D.int) xs -> xs = ns.map V.int
  | [], _, h => h.nil'
  | _ :: _, _, h => by obtain ⟨x, r, rfl, q, z⟩ := h.uncons; unfold Rep at q; rw [q, z.ints]; rfl
theorem Reps.strs : ∀ {ns : List Str} {xs : List V}, Reps K W (ns.map D.str) xs -> xs = ns.map V.str
  | [], _, h => h.nil'
  | _ :: _, _, h => by obtain ⟨x, r, rfl, q, z⟩ := h.uncons; unfold Rep at q; rw [q, z.strs]; rfl
theorem Rep.i {i : Int} : Rep K W (.int i) (.int i) := by unfold Rep; rfl
theorem Rep.s {x : Str} : Rep K W (.str x) (.str x) := by unfold Rep; rfl
theorem Rep.b {x : Bool} : Rep K W (.bl x) (.bl x) := by unfold Rep; rfl
theorem Rep.n : Rep K W .non .non := by unfold Rep; rfl
theorem Rep.g {c : Str} {C : Addr} (h : clsOf K c = some C) : Rep K W (.cls c) (.ref C) := by unfold Rep; exact ⟨C, h, rfl⟩
theorem Rep.t {x : String} : Rep K W (.ty x) (.ty x) := by unfold Rep; rfl
theorem Rep.i' {i : Int} {x : V} (h : Rep K W (.int i) x) : x = .int i := by unfold Rep at h; exact h
theorem Rep.s' {i : Str} {x : V} (h : Rep K W (.str i) x) : x = .str i := by unfold Rep at h; exact h
theorem Rep.b' {i : Bool} {x : V} (h : Rep K W (.bl i) x) : x = .bl i := by unfold Rep at h; exact h
theorem Rep.n' {x : V} (h : Rep K W .non x) : x = .non := by unfold Rep at h; exact h
theorem Rep.cell' {k : Nat} {x : V} (h : Rep K W (.cell k) x) : ∃ a, x = .ref a /\ W.b k = some a := by unfold Rep at h; exact h
theorem Rep.lst' {ds : List D} {x : V} (h : Rep K W (.lst ds) x) : ∃ a xs, x = .ref a /\ W.F a = some (.lst xs) /\ Reps K W ds xs := by unfold Rep at h; exact h
theorem Rep.tup' {ds : List D} {x : V} (h : Rep K W (.tup ds) x) : ∃ a xs, x = .ref a /\ SqT K W.F a xs /\ Reps K W ds xs := by unfold Rep at h; exact h
theorem Rep.lst {ds : List D} {a : Addr} {xs : List V} (h : W.F a = some (.lst xs)) (r : Reps K W ds xs) : Rep K W (.lst ds) (.ref a) := by unfold Rep; exact ⟨a, xs, rfl, h, r⟩
theorem Rep.tup {ds : List D} {a : Addr} {xs : List V} (h : SqT K W.F a xs) (r : Reps K W ds xs) : Rep K W (.tup ds) (.ref a) := by unfold Rep; exact ⟨a, xs, rfl, h, r⟩
theorem Rep.is_non {d : D} {x : V} (h : Rep K W d x) : x = .non ↔ d = .non := by
  cases d <;> unfold Rep at h
  case non => simp [h]
  case bl => simp [h]
  case int => simp [h]
  case str => simp [h]
  case ty => simp [h]
  case cls => obtain ⟨C, _, rfl⟩ := h; simp
  case scr => obtain ⟨a, rfl, _⟩ := h; simp
  case cell => obtain ⟨a, rfl, _⟩ := h; simp
  case tup => obtain ⟨a, xs, rfl, _⟩ := h; simp
  case lst => obtain ⟨a, xs, rfl, _⟩ := h; simp
  case dct => obtain ⟨a, xs, rfl, _⟩ := h; simp
  case dtt => obtain ⟨a, xs, rfl, _⟩ := h; simp
  case obj => obtain ⟨C, a, dx, xs, _, rfl, _⟩ := h; simp
  case exc => obtain ⟨C, a, _, rfl, _⟩ := h; simp
end
def Ctn (K : PySem.W.Frag) (W : Wd) (c : Ct) (o : Option HO) : Prop := match c with
  | .lst ds => ∃ xs, o = some (.lst xs) /\ Reps K W ds xs
  | .dct ks vs => ∃ xs, o = some (.dK (ks.zip xs)) /\ ks.length = xs.length /\ Reps K W vs xs
  | .dtt ks vs => ∃ xs, o = some (.dT (ks.zip xs)) /\ ks.length = xs.length /\ Reps K W vs xs
  | .fdct ob ks vs => ∃ xs, o = some (.frz ob (.dK (ks.zip xs))) /\ ks.length = xs.length /\ Reps K W vs xs
  | .fdtt ob ks vs => ∃ xs, o = some (.frz ob (.dT (ks.zip xs))) /\ ks.length = xs.length /\ Reps K W vs xs
  | .ins c ns vs => ∃ C dx xs, clsOf K c = some C /\ o = some (.ins C dx (ns.zip xs)) /\ ns.length = xs.length /\ Reps K W vs xs
  | .draw => ∃ (l : Addr) (ns : List Int) (i b c : Int), o = some (.lst [.ref l, .int i, .int b, .int c]) /\ W.F l = some (.lst (ns.map V.int)) /\ 0 <= i /\ 0 <= b
theorem Ctn.mono {K : PySem.W.Frag} {W W' : Wd} {c : Ct} {o : Option HO} (h : W.le W') (r : Ctn K W c o) : Ctn K W' c o := by
  cases c with
  | lst ds => obtain ⟨xs, e, q⟩ := r; exact ⟨xs, e, q.mono h⟩
  | dct ks vs => obtain ⟨xs, e, l, q⟩ := r; exact ⟨xs, e, l, q.mono h⟩
  | dtt ks vs => obtain ⟨xs, e, l, q⟩ := r; exact ⟨xs, e, l, q.mono h⟩
  | fdct ob ks vs => obtain ⟨xs, e, l, q⟩ := r; exact ⟨xs, e, l, q.mono h⟩
  | fdtt ob ks vs => obtain ⟨xs, e, l, q⟩ := r; exact ⟨xs, e, l, q.mono h⟩
  | ins C ns vs => obtain ⟨C', dx, xs, hc, e, l, q⟩ := r; exact ⟨C', dx, xs, hc, e, l, q.mono h⟩
  | draw => obtain ⟨l, ns, i, b, c, e, q, z⟩ := r; exact ⟨l, ns, i, b, c, e, h.F _ _ q, z⟩
theorem Ctn.some {K : PySem.W.Frag} {W : Wd} {c : Ct} {o : Option HO} (r : Ctn K W c o) : ∃ u, o = some u := by
  cases c with
  | lst ds => obtain ⟨xs, e, q⟩ := r; exact ⟨_, e⟩
  | dct ks vs => obtain ⟨xs, e, l, q⟩ := r; exact ⟨_, e⟩
  | dtt ks vs => obtain ⟨xs, e, l, q⟩ := r; exact ⟨_, e⟩
  | fdct ob ks vs => obtain ⟨xs, e, l, q⟩ := r; exact ⟨_, e⟩
  | fdtt ob ks vs => obtain ⟨xs, e, l, q⟩ := r; exact ⟨_, e⟩
  | ins C ns vs => obtain ⟨C', dx, xs, hc, e, l, q⟩ := r; exact ⟨_, e⟩
  | draw => obtain ⟨l, ns, i, b, c, e, q, z⟩ := r; exact ⟨_, e⟩
structure Rel (K : PySem.W.Frag) (fl : Wd) (W : Wd) (μ : Mu) (H : Hp) : Prop where
  sub : Same W.F H
  fin : ∃ n, ∀ k, n <= k -> W.b k = none
  cel : ∀ k c, μ k = some c -> ∃ a, W.b k = some a /\ W.F a = none /\ Ctn K W c (H a)
  inj : ∀ k k' c c' a, μ k = some c -> μ k' = some c' -> W.b k = some a -> W.b k' = some a -> k = k'
  up : fl.le W
def EnvR (K : PySem.W.Frag) (W : Wd) (ρ : DEnv) (σ : St) : Prop := ρ.length = σ.length /\ ∀ (i : Nat) d, ρ[i]? = some (some d) -> ∃ x, σ[i]? = some (some x) /\ Rep K W d x
section
variable {K : PySem.W.Frag} {fl : Wd} {W W' : Wd} {μ μ' : Mu} {H : Hp} {ρ : DEnv} {σ : St}
theorem Rel.floor {fl' : Wd} (r : Rel K fl W μ H) (h : fl'.le W) : Rel K fl' W μ H := ⟨r.sub, r.fin, r.cel, r.inj, h⟩
theorem EnvR.mono (h : W.le W') (r : EnvR K W ρ σ) : EnvR K W' ρ σ := ⟨r.1, fun i d e => by obtain ⟨x, e', q⟩ := r.2 i d e; exact ⟨x, e', q.mono h⟩⟩
theorem EnvR.set {i : Nat} {d : D} {x : V} (r : EnvR K W ρ σ) (q : Rep K W d x) : EnvR K W (ρ.set i (some d)) (σ.set i (some x)) := ⟨by simp [r.1], fun j d' e => by
  by_cases hj : i = j
  . subst hj
    by_cases hl : i < ρ.length
    . rw [List.getElem?_set_self hl] at e
      cases e
      exact ⟨x, List.getElem?_set_self (r.1 ▸ hl), q⟩
    . rw [List.getElem?_eq_none (by simp; omega)] at e; cases e
  . rw [List.getElem?_set_ne hj] at e
    rw [List.getElem?_set_ne hj]
    exact r.2 j d' e⟩
theorem Rel.less (r : Rel K fl W μ' H) (h : MLe μ μ') : Rel K fl W μ H := ⟨r.sub, r.fin, fun k c e => r.cel k c (h k c e), fun k k' c c' a e e' => r.inj k k' c c' a (h _ _ e) (h _ _ e'), r.up⟩
theorem Rel.newF {p : Addr} {o : HO} (r : Rel K fl W μ H) (hp : H p = none) : Rel K fl ⟨W.b, upd W.F p o⟩ μ (upd H p o) /\ W.le ⟨W.b, upd W.F p o⟩ := by
  have hF : W.F p = none := by
    cases e : W.F p with
    | none => rfl
    | some u => rw [r.sub _ _ e] at hp; cases hp
  have le : W.le ⟨W.b, upd W.F p o⟩ := ⟨fun _ _ h => h, same_upd hF⟩
  refine ⟨⟨fun b u e => ?_, r.fin, fun k c e => ?_, r.inj, r.up.trans le⟩, le⟩
  . by_cases hb : b = p
    . subst hb; have e' : (upd W.F b o) b = some u := e; rw [upd_same] at e' ⊢; exact e'
    . have e' : (upd W.F p o) b = some u := e
      rw [upd_ne hb] at e' ⊢; exact r.sub _ _ e'
  . obtain ⟨a, e1, e2, q⟩ := r.cel k c e
    obtain ⟨u, eu⟩ := q.some
    have ha : a ≠ p := ne_of_none eu hp
    exact ⟨a, e1, by show upd W.F p o a = none; rw [upd_ne ha]; exact e2, by rw [upd_ne ha]; exact q.mono le⟩
theorem Rel.newC {p : Addr} {o : HO} {c : Ct} (r : Rel K fl W μ H) (hp : H p = none) (hc : Ctn K W c (some o)) : ∃ (k : Nat) (W' : Wd), μ k = none /\ W.le W' /\ Rel K fl W' (mset μ k c) (upd H p o) /\ W'.b k = some p := by
  obtain ⟨n, hn⟩ := r.fin
  have hF : W.F p = none := by
    cases e : W.F p with
    | none => rfl
    | some u => rw [r.sub _ _ e] at hp; cases hp
  have hk : μ n = none := by
    cases e : μ n with
    | none => rfl
    | some c => obtain ⟨a, e1, _⟩ := r.cel n c e; rw [hn n (Nat.le_refl _)] at e1; cases e1
  have le : W.le ⟨fun j => if j = n then some p else W.b j, W.F⟩ := ⟨fun k a e => by
    show (if k = n then some p else W.b k) = some a
    rw [if_neg (fun z => by rw [z, hn n (Nat.le_refl _)] at e; cases e)]; exact e, fun _ _ h => h⟩
  refine ⟨n, ⟨fun j => if j = n then some p else W.b j, W.F⟩, hk, le, ⟨fun b u e => ?_, ⟨n + 1, fun k hk => ?_⟩, fun k c' e => ?_, fun k k' c1 c2 a e e' q q' => ?_, r.up.trans le⟩, if_pos rfl⟩
  . have : b ≠ p := fun z => by
      have e' : W.F b = some u := e
      rw [z, hF] at e'; cases e'
    rw [upd_ne this]; exact r.sub _ _ e
  . show (if k = n then some p else W.b k) = none
    rw [if_neg (by omega)]; exact hn k (by omega)
  . by_cases ek : k = n
    . subst ek
      rw [mset_same] at e; cases e
      exact ⟨p, if_pos rfl, hF, by rw [upd_same]; exact hc.mono le⟩
    . rw [mset_ne ek] at e
      obtain ⟨a, e1, e2, q⟩ := r.cel k c' e
      obtain ⟨u, eu⟩ := q.some
      have ha : a ≠ p := ne_of_none eu hp
      exact ⟨a, by show (if k = n then some p else W.b k) = some a; rw [if_neg ek]; exact e1, e2, by rw [upd_ne ha]; exact q.mono le⟩
  . have key : ∀ k c, mset μ n c k = some c -> True := fun _ _ _ => trivial
    have at' : ∀ {j : Nat} {cj : Ct}, mset μ n c j = some cj -> j ≠ n -> (∃ a', W.b j = some a' /\ a' ≠ p) := fun {j cj} ej hj => by
      rw [mset_ne hj] at ej
      obtain ⟨a', e1, e2, q⟩ := r.cel j cj ej
      obtain ⟨u, eu⟩ := q.some
      exact ⟨a', e1, ne_of_none eu hp⟩
    have q1 : (if k = n then some p else W.b k) = some a := q
    have q2 : (if k' = n then some p else W.b k') = some a := q'
    by_cases ek : k = n
    . by_cases ek' : k' = n
      . rw [ek, ek']
      . rw [if_pos ek] at q1; rw [if_neg ek'] at q2
        obtain ⟨a', f1, f2⟩ := at' e' ek'
        rw [f1] at q2; cases q1; cases q2; exact absurd rfl f2
    . by_cases ek' : k' = n
      . rw [if_neg ek] at q1; rw [if_pos ek'] at q2
        obtain ⟨a', f1, f2⟩ := at' e ek
        rw [f1] at q1; cases q2; cases q1; exact absurd rfl f2
      . rw [if_neg ek] at q1; rw [if_neg ek'] at q2
        rw [mset_ne ek] at e; rw [mset_ne ek'] at e'
        exact r.inj k k' _ _ a e e' q1 q2
theorem Rel.setC {k : Nat} {a : Addr} {c c' : Ct} {o : HO} (r : Rel K fl W μ H) (hk : μ k = some c) (ha : W.b k = some a) (hc : Ctn K W c' (some o)) : Rel K fl W (mset μ k c') (upd H a o) := by
  obtain ⟨a', e1, e2, _⟩ := r.cel k c hk
  rw [ha] at e1; cases e1
  refine ⟨fun b u e => ?_, r.fin, fun j d e => ?_, fun j j' d d' x e e' => ?_, r.up⟩
  . rw [upd_ne (fun z => by rw [z, e2] at e; cases e)]; exact r.sub _ _ e
  . by_cases ek : j = k
    . subst ek; rw [mset_same] at e; cases e
      exact ⟨a, ha, e2, by rw [upd_same]; exact hc⟩
    . rw [mset_ne ek] at e
      obtain ⟨x, f1, f2, q⟩ := r.cel j d e
      have hx : x ≠ a := fun z => ek (r.inj j k _ _ a e hk (z ▸ f1) ha)
      exact ⟨x, f1, f2, by rw [upd_ne hx]; exact q⟩
  . have g : ∀ {j d}, mset μ k c' j = some d -> ∃ d, μ j = some d := fun {j d} e => by
      by_cases ek : j = k
      . subst ek; exact ⟨_, hk⟩
      . rw [mset_ne ek] at e; exact ⟨_, e⟩
    obtain ⟨d1, f1⟩ := g e
    obtain ⟨d2, f2⟩ := g e'
    exact r.inj j j' _ _ x f1 f2
theorem Rel.freeze {k : Nat} {a : Addr} {c : Ct} {o : HO} (r : Rel K fl W μ H) (hk : μ k = some c) (ha : W.b k = some a) (ho : H a = some o) : Rel K fl ⟨W.b, upd W.F a o⟩ (mdel μ k) H /\ W.le ⟨W.b, upd W.F a o⟩ := by
  obtain ⟨a', e1, e2, _⟩ := r.cel k c hk
  rw [ha] at e1; cases e1
  have le : W.le ⟨W.b, upd W.F a o⟩ := ⟨fun _ _ h => h, same_upd e2⟩
  have g : ∀ {j d}, mdel μ k j = some d -> j ≠ k /\ μ j = some d := fun {j d} e => by
    unfold mdel at e
    by_cases ek : j = k
    . rw [if_pos ek] at e; cases e
    . rw [if_neg ek] at e; exact ⟨ek, e⟩
  refine ⟨⟨fun b u e => ?_, r.fin, fun j d e => ?_, fun j j' d d' x e e' => r.inj j j' _ _ x (g e).2 (g e').2, r.up.trans le⟩, le⟩
  . by_cases hb : b = a
    . subst hb; have e' : (upd W.F b o) b = some u := e; rw [upd_same] at e'; cases e'; exact ho
    . have e' : (upd W.F a o) b = some u := e
      rw [upd_ne hb] at e'; exact r.sub _ _ e'
  . obtain ⟨hj, ej⟩ := g e
    obtain ⟨x, f1, f2, q⟩ := r.cel j d ej
    have hx : x ≠ a := fun z => hj (r.inj j k _ _ a ej hk (z ▸ f1) ha)
    exact ⟨x, f1, by show upd W.F a o x = none; rw [upd_ne hx]; exact f2, q.mono le⟩
end
end L2

namespace L2
open PySem PySem.Spec PyProof.Rows
abbrev DK := D -> Mu -> Prop
abbrev DE := DEnv -> Mu -> DK -> Prop
abbrev DT := DEnv -> Mu -> (Bool -> Mu -> Prop) -> Prop
abbrev DA := DEnv -> Mu -> (List D -> Mu -> Prop) -> Prop
structure DEnds where
  nx : DEnv -> Mu -> Prop
  rt : DK
  bk : DEnv -> Mu -> Prop := fun _ _ => False
  ct : DEnv -> Mu -> Prop := fun _ _ => False
abbrev DS := DEnds -> DEnv -> Mu -> Prop
abbrev DG := D -> DEnv -> Mu -> (DEnv -> Mu -> Prop) -> Prop
abbrev DGs := List D -> DEnv -> Mu -> (DEnv -> Mu -> Prop) -> Prop
abbrev DR2 := D -> D -> Mu -> DK -> Prop
abbrev DR1 := D -> Mu -> DK -> Prop
abbrev DRs := List D -> Mu -> DK -> Prop
abbrev DO := DEnv -> Mu -> (Option Int -> Mu -> Prop) -> Prop
abbrev DI := DEnv -> Mu -> (List D -> (Mu -> Prop) -> Mu -> Prop) -> Prop
abbrev DSp := List D -> Mu -> DK -> Prop

section
variable (K : PySem.W.Frag) (fl : Wd)
abbrev KV' (W : Wd) (Q : DK) (Q' : VK) : Prop := ∀ W' d μ' x H', W.le W' -> Rel K fl W' μ' H' -> Rep K W' d x -> Q d μ' -> Q' x H'
class SimE (t : TE) (w : DE) : Prop where
  run : ∀ {W ρ μ σ H Q Q'}, Rel K fl W μ H -> EnvR K W ρ σ -> w ρ μ Q -> KV' K fl W Q Q' -> t σ H Q'
class SimT (t : TT) (w : DT) : Prop where
  run : ∀ {W ρ μ σ H} {Q : Bool -> Mu -> Prop} {Q' : Bool -> Hp -> Prop}, Rel K fl W μ H -> EnvR K W ρ σ -> w ρ μ Q -> (∀ W' b μ' H', W.le W' -> Rel K fl W' μ' H' -> Q b μ' -> Q' b H') -> t σ H Q'
class SimA (t : TA) (w : DA) : Prop where
  run : ∀ {W ρ μ σ H} {Q : List D -> Mu -> Prop} {Q' : List V -> Hp -> Prop}, Rel K fl W μ H -> EnvR K W ρ σ -> w ρ μ Q -> (∀ W' ds μ' xs H', W.le W' -> Rel K fl W' μ' H' -> Reps K W' ds xs -> Q ds μ' -> Q' xs H') -> t σ H Q'
structure EndsR (W : Wd) (D' : DEnds) (D : Ends) : Prop where
  nx : ∀ W' ρ μ σ H, W.le W' -> Rel K fl W' μ H -> EnvR K W' ρ σ -> D'.nx ρ μ -> D.nx σ H
  bk : ∀ W' ρ μ σ H, W.le W' -> Rel K fl W' μ H -> EnvR K W' ρ σ -> D'.bk ρ μ -> D.bk σ H
  ct : ∀ W' ρ μ σ H, W.le W' -> Rel K fl W' μ H -> EnvR K W' ρ σ -> D'.ct ρ μ -> D.ct σ H
  rt : ∀ W' d μ x H, W.le W' -> Rel K fl W' μ H -> Rep K W' d x -> D'.rt d μ -> D.rt x H
class SimS (t : TS) (w : DS) : Prop where
  run : ∀ {W ρ μ σ H D' D}, Rel K fl W μ H -> EnvR K W ρ σ -> w D' ρ μ -> EndsR K fl W D' D -> t D σ H
class SimG (g : TG) (dg : DG) (S : outParam (List Nat)) : Prop where
  run : ∀ {W ρ μ σ H d x} {Q : DEnv -> Mu -> Prop} {Q' : St -> Hp -> Prop}, Rel K fl W μ H -> EnvR K W ρ σ -> Rep K W d x -> dg d ρ μ Q ->
    (∀ W' ρ' μ' σ' H', W.le W' -> Rel K fl W' μ' H' -> EnvR K W' ρ' σ' -> σ'.length = σ.length -> (∀ i, i ∉ S -> σ'[i]? = σ[i]?) -> Q ρ' μ' -> Q' σ' H') -> g x σ H Q'
class SimGs (g : TGs) (dg : DGs) (S : outParam (List Nat)) : Prop where
  run : ∀ {W ρ μ σ H ds xs} {Q : DEnv -> Mu -> Prop} {Q' : St -> Hp -> Prop}, Rel K fl W μ H -> EnvR K W ρ σ -> Reps K W ds xs -> dg ds ρ μ Q ->
    (∀ W' ρ' μ' σ' H', W.le W' -> Rel K fl W' μ' H' -> EnvR K W' ρ' σ' -> σ'.length = σ.length -> (∀ i, i ∉ S -> σ'[i]? = σ[i]?) -> Q ρ' μ' -> Q' σ' H') -> g xs σ H Q'
class SimR2 (r : R2) (q : DR2) : Prop where
  run : ∀ {W μ H d e x y Q Q'}, Rel K fl W μ H -> Rep K W d x -> Rep K W e y -> q d e μ Q -> KV' K fl W Q Q' -> r x y H Q'
class SimR1 (r : V -> Hp -> VK -> Prop) (q : DR1) : Prop where
  run : ∀ {W μ H d x Q Q'}, Rel K fl W μ H -> Rep K W d x -> q d μ Q -> KV' K fl W Q Q' -> r x H Q'
class SimRs (r : List V -> Hp -> VK -> Prop) (q : DRs) : Prop where
  run : ∀ {W μ H ds xs Q Q'}, Rel K fl W μ H -> Reps K W ds xs -> q ds μ Q -> KV' K fl W Q Q' -> r xs H Q'
class SimO (t : TO) (w : DO) : Prop where
  run : ∀ {W ρ μ σ H} {Q : Option Int -> Mu -> Prop} {Q' : Option Int -> Hp -> Prop}, Rel K fl W μ H -> EnvR K W ρ σ -> w ρ μ Q -> (∀ W' b μ' H', W.le W' -> Rel K fl W' μ' H' -> Q b μ' -> Q' b H') -> t σ H Q'
def ItR (W : Wd) (J : It) (ds : List D) (Pm : Mu -> Prop) : Prop := ∀ W1 μ H, W.le W1 -> Rel K fl W1 μ H -> Pm μ -> ∀ i : Nat, (∀ d, ds[i]? = some d -> J.go i H /\ ∀ x H', J.yld i H x H' -> ∃ W2, W1.le W2 /\ Rel K fl W2 μ H' /\ Rep K W2 d x) /\ (ds.length <= i -> J.stop i H)
class SimI (t : TI) (w : DI) : Prop where
  run : ∀ {W ρ μ σ H} {Q : List D -> (Mu -> Prop) -> Mu -> Prop} {Q' : It -> Hp -> Prop}, Rel K fl W μ H -> EnvR K W ρ σ -> w ρ μ Q -> (∀ W' J ds Pm μ' H', W.le W' -> Rel K fl W' μ' H' -> ItR K fl W' J ds Pm -> Q ds Pm μ' -> Q' J H') -> t σ H Q'
end
def dVar (i : Nat) : DE := fun ρ μ Q => match ρ[i]? with
  | some (some d) => Q d μ
  | _ => False
def dC (d : D) : DE := fun _ μ Q => Q d μ
section
variable {K : PySem.W.Frag} {fl : Wd}
instance {i : Nat} : SimE K fl (tVar i) (dVar i) := ⟨fun {W ρ μ σ H Q Q'} r e h k => by
  unfold dVar at h
  split at h
  . rename_i d hd
    obtain ⟨x, ex, q⟩ := e.2 i d hd
    exact ⟨x, ex, k W d μ x H (.refl W) r q h⟩
  . exact h.elim⟩
instance {i : Int} : SimE K fl (tC (.int i)) (dC (.int i)) := ⟨fun {W ρ μ σ H Q Q'} r e h k => k W _ μ _ H (.refl W) r .i h⟩
instance {i : Str} : SimE K fl (tC (.str i)) (dC (.str i)) := ⟨fun {W ρ μ σ H Q Q'} r e h k => k W _ μ _ H (.refl W) r .s h⟩
instance {i : Bool} : SimE K fl (tC (.bl i)) (dC (.bl i)) := ⟨fun {W ρ μ σ H Q Q'} r e h k => k W _ μ _ H (.refl W) r .b h⟩
instance : SimE K fl (tC .non) (dC .non) := ⟨fun {W ρ μ σ H Q Q'} r e h k => k W _ μ _ H (.refl W) r .n h⟩
instance {i : String} : SimE K fl (tC (.ty i)) (dC (.ty i)) := ⟨fun {W ρ μ σ H Q Q'} r e h k => k W _ μ _ H (.refl W) r .t h⟩
class IsCls (K : PySem.W.Frag) (c : Str) (C : Addr) : Prop where
  at_ : clsOf K c = some C
instance {c : Str} {C : Addr} [i : IsCls K c C] : SimE K fl (tC (.ref C)) (dC (.cls c)) := ⟨fun {W ρ μ σ H Q Q'} r e h k => k W _ μ _ H (.refl W) r (.g i.at_) h⟩
end
def dOp (q : DR2) (wa wb : DE) : DE := fun ρ μ Q => wa ρ μ fun d μ1 => wb ρ μ1 fun e μ2 => q d e μ2 Q
def dUn (q : DR1) (wa : DE) : DE := fun ρ μ Q => wa ρ μ fun d μ1 => q d μ1 Q
def dTest (w : DE) : DT := fun ρ μ Q => w ρ μ fun d μ1 => match d with
  | .bl b => Q b μ1
  | _ => False
def dAnd (t u : DT) : DT := fun ρ μ Q => t ρ μ fun c μ1 => if c = true then u ρ μ1 Q else Q false μ1
def dOr (t u : DT) : DT := fun ρ μ Q => t ρ μ fun c μ1 => if c = true then Q true μ1 else u ρ μ1 Q
def dNot (t : DT) : DT := fun ρ μ Q => t ρ μ fun c μ1 => Q (!c) μ1
def dAndV (ta tb : DE) : DE := fun ρ μ Q => dTest ta ρ μ fun c μ1 => if c = true then tb ρ μ1 Q else Q (.bl false) μ1
def dOrV (ta tb : DE) : DE := fun ρ μ Q => dTest ta ρ μ fun c μ1 => if c = true then Q (.bl true) μ1 else tb ρ μ1 Q
def dNotV (ta : DE) : DE := fun ρ μ Q => dTest ta ρ μ fun c μ1 => Q (.bl (!c)) μ1
def dIf (t : DT) (ta tb : DE) : DE := fun ρ μ Q => t ρ μ fun c μ1 => if c = true then ta ρ μ1 Q else tb ρ μ1 Q
def dChain (q q' : DR2) (wa wb wc : DE) : DE := fun ρ μ Q => wa ρ μ fun d μ1 => wb ρ μ1 fun e μ2 => q d e μ2 fun z μ3 => match z with
  | .bl k => if k = true then wc ρ μ3 fun f μ4 => q' e f μ4 Q else Q (.bl false) μ3
  | _ => False
section
variable {K : PySem.W.Frag} {fl : Wd} {r r' : R2} {q q' : DR2} {ta tb tc : TE} {wa wb wc : DE} {t u : TT} {v w : DT}
instance [a : SimE K fl ta wa] [b : SimE K fl tb wb] [o : SimR2 K fl r q] : SimE K fl (tOp r ta tb) (dOp q wa wb) := ⟨fun r e h k =>
  a.run r e h fun W1 d μ1 x H1 le1 r1 q1 h1 => b.run r1 (e.mono le1) h1 fun W2 d' μ2 y H2 le2 r2 q2 h2 => o.run r2 (q1.mono le2) q2 h2 fun W3 d3 μ3 z H3 le3 r3 q3 h3 => k W3 d3 μ3 z H3 (le1.trans (le2.trans le3)) r3 q3 h3⟩
instance {r : V -> Hp -> VK -> Prop} {q : DR1} [a : SimE K fl ta wa] [o : SimR1 K fl r q] : SimE K fl (tUn r ta) (dUn q wa) := ⟨fun r e h k =>
  a.run r e h fun W1 d μ1 x H1 le1 r1 q1 h1 => o.run r1 q1 h1 fun W3 d3 μ3 z H3 le3 r3 q3 h3 => k W3 d3 μ3 z H3 (le1.trans le3) r3 q3 h3⟩
theorem test_of [a : SimE K fl ta wa] {W ρ μ σ H} {Q : Bool -> Mu -> Prop} {Q' : Bool -> Hp -> Prop} (r : Rel K fl W μ H) (e : EnvR K W ρ σ) (h : dTest wa ρ μ Q) (k : ∀ W' b μ' H', W.le W' -> Rel K fl W' μ' H' -> Q b μ' -> Q' b H') : ta σ H fun x H' => ∃ k, x = .bl k /\ Q' k H' :=
  a.run r e h fun W1 d μ1 x H1 le1 r1 q1 h1 => by
    cases d <;> first | exact h1.elim | skip
    rename_i b
    exact ⟨b, q1.b', k W1 b μ1 H1 le1 r1 h1⟩
instance [a : SimE K fl ta wa] : SimT K fl (tTest ta) (dTest wa) := ⟨fun r e h k => test_of r e h k⟩
instance [a : SimE K fl ta wa] : SimT K fl (tB ta) (dTest wa) := ⟨fun r e h k => test_of r e h k⟩
instance [a : SimT K fl t v] [b : SimT K fl u w] : SimT K fl (tAnd t u) (dAnd v w) := ⟨fun r e h k => a.run r e h fun W1 c μ1 H1 le1 r1 h1 => by
  cases c with
  | true => exact b.run r1 (e.mono le1) h1 fun W2 c2 μ2 H2 le2 r2 h2 => k W2 c2 μ2 H2 (le1.trans le2) r2 h2
  | false => exact k W1 false μ1 H1 le1 r1 h1⟩
instance [a : SimT K fl t v] [b : SimT K fl u w] : SimT K fl (tOr t u) (dOr v w) := ⟨fun r e h k => a.run r e h fun W1 c μ1 H1 le1 r1 h1 => by
  cases c with
  | false => exact b.run r1 (e.mono le1) h1 fun W2 c2 μ2 H2 le2 r2 h2 => k W2 c2 μ2 H2 (le1.trans le2) r2 h2
  | true => exact k W1 true μ1 H1 le1 r1 h1⟩
instance [a : SimT K fl t v] : SimT K fl (tNot t) (dNot v) := ⟨fun r e h k => a.run r e h fun W1 c μ1 H1 le1 r1 h1 => k W1 (!c) μ1 H1 le1 r1 h1⟩
instance [a : SimE K fl ta wa] [b : SimE K fl tb wb] : SimE K fl (tAndV ta tb) (dAndV wa wb) := ⟨fun r e h k => test_of r e h fun W1 c μ1 H1 le1 r1 h1 => by
  cases c with
  | true => exact b.run r1 (e.mono le1) h1 fun W2 c2 μ2 x H2 le2 r2 q2 h2 => k W2 c2 μ2 x H2 (le1.trans le2) r2 q2 h2
  | false => exact k W1 (.bl false) μ1 _ H1 le1 r1 .b h1⟩
instance [a : SimE K fl ta wa] : SimE K fl (tNotV ta) (dNotV wa) := ⟨fun r e h k => test_of r e h fun W1 c μ1 H1 le1 r1 h1 => k W1 (.bl (!c)) μ1 _ H1 le1 r1 .b h1⟩
instance [c : SimT K fl t v] [a : SimE K fl ta wa] [b : SimE K fl tb wb] : SimE K fl (tIf t ta tb) (dIf v wa wb) := ⟨fun r e h k => c.run r e h fun W1 c μ1 H1 le1 r1 h1 => by
  cases c with
  | true => exact a.run r1 (e.mono le1) h1 fun W2 c2 μ2 x H2 le2 r2 q2 h2 => k W2 c2 μ2 x H2 (le1.trans le2) r2 q2 h2
  | false => exact b.run r1 (e.mono le1) h1 fun W2 c2 μ2 x H2 le2 r2 q2 h2 => k W2 c2 μ2 x H2 (le1.trans le2) r2 q2 h2⟩
instance [a : SimE K fl ta wa] [b : SimE K fl tb wb] [c : SimE K fl tc wc] [o : SimR2 K fl r q] [o' : SimR2 K fl r' q'] : SimE K fl (tChain r r' ta tb tc) (dChain q q' wa wb wc) := ⟨fun r e h k =>
  a.run r e h fun W1 d μ1 x H1 le1 r1 q1 h1 => b.run r1 (e.mono le1) h1 fun W2 d' μ2 y H2 le2 r2 q2 h2 => o.run r2 (q1.mono le2) q2 h2 fun W3 d3 μ3 z H3 le3 r3 q3 h3 => by
    cases d3 <;> first | exact h3.elim | skip
    rename_i kk
    refine ⟨kk, q3.b', ?_⟩
    cases kk with
    | false => exact k W3 (.bl false) μ3 _ H3 (le1.trans (le2.trans le3)) r3 .b h3
    | true => exact c.run r3 (e.mono (le1.trans (le2.trans le3))) h3 fun W4 d4 μ4 x4 H4 le4 r4 q4 h4 => o'.run r4 (q2.mono (le3.trans le4)) q4 h4 fun W5 d5 μ5 x5 H5 le5 r5 q5 h5 => k W5 d5 μ5 x5 H5 (le1.trans (le2.trans (le3.trans (le4.trans le5)))) r5 q5 h5⟩
end
def dNil : DA := fun _ μ Q => Q [] μ
def dCons (wa : DE) (wr : DA) : DA := fun ρ μ Q => wa ρ μ fun d μ1 => wr ρ μ1 fun ds μ2 => Q (d :: ds) μ2
def dTup (w : DA) : DE := fun ρ μ Q => w ρ μ fun ds μ1 => ds.length <= sizeLine /\ Q (.tup ds) μ1
def dLst (w : DA) : DE := fun ρ μ Q => w ρ μ fun ds μ1 => ds.length <= sizeLine /\ Q (.lst ds) μ1
def dLstC (w : DA) : DE := fun ρ μ Q => w ρ μ fun ds μ1 => ds.length <= sizeLine /\ ∀ k, μ1 k = none -> Q (.cell k) (mset μ1 k (.lst ds))
def dInts (ks : List Int) : DA := fun _ μ Q => Q (ks.map D.int) μ
def tThaw (t : TE) : TE := t
section
variable {K : PySem.W.Frag} {fl : Wd} {ta : TE} {wa : DE} {t : TA} {w : DA}
instance : SimA K fl tNil dNil := ⟨fun {W ρ μ σ H Q Q'} r e h k => k W [] μ [] H (.refl W) r .nil h⟩
instance [a : SimE K fl ta wa] [b : SimA K fl t w] : SimA K fl (tCons ta t) (dCons wa w) := ⟨fun r e h k =>
  a.run r e h fun W1 d μ1 x H1 le1 r1 q1 h1 => b.run r1 (e.mono le1) h1 fun W2 ds μ2 xs H2 le2 r2 q2 h2 => k W2 (d :: ds) μ2 (x :: xs) H2 (le1.trans le2) r2 (.cons (q1.mono le2) q2) h2⟩
theorem Reps.of_ints {W : Wd} : ∀ ns : List Int, Reps K W (ns.map D.int) (ns.map V.int)
  | [] => .nil
  | _ :: r => .cons .i (Reps.of_ints r)
theorem Reps.of_strs {W : Wd} : ∀ ns : List Str, Reps K W (ns.map D.str) (ns.map V.str)
  | [] => .nil
  | _ :: r => .cons .s (Reps.of_strs r)
instance {ks : List Int} : SimA K fl (tInts ks) (dInts ks) := ⟨fun {W ρ μ σ H Q Q'} r e h k => k W _ μ _ H (.refl W) r (.of_ints ks) h⟩
instance [a : SimA K fl t w] : SimE K fl (tTup t) (dTup w) := ⟨fun r e h k => a.run r e h fun W1 ds μ1 xs H1 le1 r1 q1 h1 => ⟨by rw [q1.length]; exact h1.1, fun p hp => by
  obtain ⟨r2, le2⟩ := r1.newF (o := .tup xs) hp
  exact k _ _ _ _ _ (le1.trans le2) r2 (.tup (SqT.of upd_same) (q1.mono le2)) h1.2⟩⟩
instance [a : SimA K fl t w] : SimE K fl (tLst t) (dLst w) := ⟨fun r e h k => a.run r e h fun W1 ds μ1 xs H1 le1 r1 q1 h1 => ⟨by rw [q1.length]; exact h1.1, fun p hp => by
  obtain ⟨r2, le2⟩ := r1.newF (o := .lst xs) hp
  exact k _ _ _ _ _ (le1.trans le2) r2 (.lst upd_same (q1.mono le2)) h1.2⟩⟩
theorem new_cell {W W1 : Wd} {μ1 : Mu} {H1 : Hp} {p : Addr} {xs : List V} {ds : List D} {Q : DK} {Q' : VK} (le1 : W.le W1) (r1 : Rel K fl W1 μ1 H1) (q1 : Reps K W1 ds xs) (hp : H1 p = none) (k : KV' K fl W Q Q') (h : ∀ k, μ1 k = none -> Q (.cell k) (mset μ1 k (.lst ds))) : Q' (.ref p) (upd H1 p (.lst xs)) := by
  obtain ⟨c, W2, hk, le2, r2, e2⟩ := r1.newC (o := .lst xs) (c := .lst ds) hp ⟨xs, rfl, q1⟩
  exact k W2 (.cell c) _ _ _ (le1.trans le2) r2 (by unfold Rep; exact ⟨p, rfl, e2⟩) (h c hk)
instance [a : SimA K fl t w] : SimE K fl (tThaw (tLst t)) (dLstC w) := ⟨fun r e h k => a.run r e h fun W1 ds μ1 xs H1 le1 r1 q1 h1 => ⟨by rw [q1.length]; exact h1.1, fun p hp => new_cell le1 r1 q1 hp k h1.2⟩⟩
end
def dNext : DS := fun D ρ μ => D.nx ρ μ
def dSeq (t u : DS) : DS := fun D ρ μ => t { D with nx := u D } ρ μ
def dBreak : DS := fun D ρ μ => D.bk ρ μ
def dCont : DS := fun D ρ μ => D.ct ρ μ
def dDrop (w : DE) : DS := fun D ρ μ => w ρ μ fun _ μ1 => D.nx ρ μ1
def dRet (w : DE) : DS := fun D ρ μ => w ρ μ D.rt
def dRetN : DS := fun D _ μ => D.rt .non μ
def dIfS (c : DT) (t u : DS) : DS := fun D ρ μ => c ρ μ fun b μ1 => if b = true then t D ρ μ1 else u D ρ μ1
def dNever : DS := fun _ _ _ => False
def dgName (i : Nat) : DG := fun d ρ μ Q => Q (ρ.set i (some d)) μ
def dgNil : DGs := fun ds ρ μ Q => ds = [] /\ Q ρ μ
def dgCons (g : DG) (gs : DGs) : DGs := fun ds ρ μ Q => match ds with
  | d :: r => g d ρ μ fun ρ' μ' => gs r ρ' μ' Q
  | [] => False
def dgTup (n : Nat) (gs : DGs) : DG := fun d ρ μ Q => match d with
  | .tup ds => ds.length = n /\ gs ds ρ μ Q
  | _ => False
def dAsg (w : DE) (g : DG) : DS := fun D ρ μ => w ρ μ fun d μ1 => g d ρ μ1 D.nx
def dPar (i j : Nat) (w : DA) : DS := fun D ρ μ => w ρ μ fun ds μ1 => match ds with
  | [d, e] => D.nx ((ρ.set i (some d)).set j (some e)) μ1
  | _ => False
def dAug (i : Nat) (w : DE) (q : DR2) : DS := fun D ρ μ => dVar i ρ μ fun x _ => w ρ μ fun y μ1 => q x y μ1 fun z μ2 => D.nx (ρ.set i (some z)) μ2
def tFreeze (i : Nat) (t : TS) : TS := t
theorem qss_freeze {X : Cx} {sts : List Stmt} {t : TS} (i : Nat) (h : WSs X sts t) : WSs X sts (tFreeze i t) := h
theorem qe_thaw {X : Cx} {e : Expr} {t : TE} (h : WE X e t) : WE X e (tThaw t) := h
def frzD (μ : Mu) (d : D) (Q : DK) : Prop := match d with
  | .cell k => match μ k with
    | some (.lst ds) => Q (.lst ds) (mdel μ k)
    | some (.dct ks vs) => Q (.dct ks vs) (mdel μ k)
    | some (.dtt ks vs) => Q (.dtt ks vs) (mdel μ k)
    | some (.ins C ns vs) => Q (.obj C ns vs) (mdel μ k)
    | _ => False
  | _ => False
def dFreeze (i : Nat) (w : DS) : DS := fun D ρ μ => match ρ[i]? with
  | some (some d) => frzD μ d fun d' μ' => w D (ρ.set i (some d')) μ'
  | _ => False
section
variable {K : PySem.W.Frag} {fl : Wd} {ta : TE} {wa : DE} {t u : TS} {v w : DS}
theorem EndsR.mono {W W' : Wd} {D' : DEnds} {D : Ends} (le : W.le W') (h : EndsR K fl W D' D) : EndsR K fl W' D' D :=
  ⟨fun W2 ρ μ σ H l => h.nx W2 ρ μ σ H (le.trans l), fun W2 ρ μ σ H l => h.bk W2 ρ μ σ H (le.trans l), fun W2 ρ μ σ H l => h.ct W2 ρ μ σ H (le.trans l), fun W2 ρ μ σ H l => h.rt W2 ρ μ σ H (le.trans l)⟩
instance : SimS K fl tNext dNext := ⟨fun {W ρ μ σ H D' D} r e h k => k.nx W ρ μ σ H (.refl W) r e h⟩
instance : SimS K fl tNever dNever := ⟨fun r e h k => h.elim⟩
instance [a : SimS K fl t v] [b : SimS K fl u w] : SimS K fl (tSeq t u) (dSeq v w) := ⟨fun r e h k => a.run r e h ⟨fun W1 ρ1 μ1 σ1 H1 le1 r1 e1 h1 => b.run r1 e1 h1 (k.mono le1), k.bk, k.ct, k.rt⟩⟩
instance [a : SimE K fl ta wa] : SimS K fl (tDrop ta) (dDrop wa) := ⟨fun r e h k => a.run r e h fun W1 d μ1 x H1 le1 r1 q1 h1 => k.nx W1 _ μ1 _ H1 le1 r1 (e.mono le1) h1⟩
instance [a : SimE K fl ta wa] : SimS K fl (tRet ta) (dRet wa) := ⟨fun r e h k => a.run r e h fun W1 d μ1 x H1 le1 r1 q1 h1 => k.rt W1 d μ1 x H1 le1 r1 q1 h1⟩
instance {c : TT} {wc : DT} [a : SimT K fl c wc] [x : SimS K fl t v] [y : SimS K fl u w] : SimS K fl (tIfS c t u) (dIfS wc v w) := ⟨fun r e h k => a.run r e h fun W1 b μ1 H1 le1 r1 h1 => by
  cases b with
  | true => exact x.run r1 (e.mono le1) h1 (k.mono le1)
  | false => exact y.run r1 (e.mono le1) h1 (k.mono le1)⟩
instance {i : Nat} : SimG K fl (gName i) (dgName i) [i] := ⟨fun {W ρ μ σ H d x Q Q'} r e q h k => k W _ μ _ H (.refl W) r (e.set q) (by simp) (fun j hj => by rw [List.getElem?_set_ne (fun z => hj (by simp [z]))]) h⟩
instance : SimGs K fl gNil dgNil [] := ⟨fun {W ρ μ σ H ds xs Q Q'} r e q h k => by obtain ⟨rfl, h⟩ := h; exact ⟨q.nil', k W _ μ _ H (.refl W) r e rfl (fun _ _ => rfl) h⟩⟩
instance {g : TG} {dg : DG} {S S' : List Nat} {gs : TGs} {dgs : DGs} [a : SimG K fl g dg S] [b : SimGs K fl gs dgs S'] : SimGs K fl (gCons g gs) (dgCons dg dgs) (S ++ S') := ⟨fun {W ρ μ σ H ds xs Q Q'} r e q h k => by
  cases ds with
  | nil => exact h.elim
  | cons d ds =>
    obtain ⟨x, xs, rfl, q1, q2⟩ := q.uncons
    exact ⟨x, xs, rfl, a.run r e q1 h fun W1 ρ1 μ1 σ1 H1 le1 r1 e1 l1 s1 h1 => b.run r1 e1 (q2.mono le1) h1 fun W2 ρ2 μ2 σ2 H2 le2 r2 e2 l2 s2 h2 => k W2 ρ2 μ2 σ2 H2 (le1.trans le2) r2 e2 (l2.trans l1) (fun i hi => by rw [s2 i (fun z => hi (List.mem_append_right _ z)), s1 i (fun z => hi (List.mem_append_left _ z))]) h2⟩⟩
instance {n : Nat} {gs : TGs} {dgs : DGs} {S : List Nat} [b : SimGs K fl gs dgs S] : SimG K fl (gTup K n gs) (dgTup n dgs) S := ⟨fun {W ρ μ σ H d x Q Q'} r e q h k => by
  cases d <;> first | exact h.elim | skip
  obtain ⟨a, xs, rfl, hs, q1⟩ := q.tup'
  exact ⟨a, xs, rfl, hs.sm r.sub, by rw [q1.length]; exact h.1, b.run r e q1 h.2 k⟩⟩
instance {g : TG} {dg : DG} {S : List Nat} [a : SimE K fl ta wa] [b : SimG K fl g dg S] : SimS K fl (tAsg ta g) (dAsg wa dg) := ⟨fun r e h k => a.run r e h fun W1 d μ1 x H1 le1 r1 q1 h1 => b.run r1 (e.mono le1) q1 h1 fun W2 ρ2 μ2 σ2 H2 le2 r2 e2 _ _ h2 => k.nx W2 ρ2 μ2 σ2 H2 (le1.trans le2) r2 e2 h2⟩
theorem frz_run {W : Wd} {μ : Mu} {H : Hp} {d : D} {x : V} {Q : DK} (r : Rel K fl W μ H) (q : Rep K W d x) (h : frzD μ d Q) : ∃ W' d' μ', W.le W' /\ Rel K fl W' μ' H /\ Rep K W' d' x /\ Q d' μ' := by
  unfold frzD at h
  split at h
  . rename_i k
    obtain ⟨a, rfl, hb⟩ := q.cell'
    split at h
    . rename_i ds hk
      obtain ⟨a', e1, e2, xs, e3, q3⟩ := r.cel k _ hk
      rw [hb] at e1; cases e1
      obtain ⟨r2, le2⟩ := r.freeze hk hb e3
      exact ⟨_, _, _, le2, r2, .lst upd_same (q3.mono le2), h⟩
    . rename_i ks vs hk
      obtain ⟨a', e1, e2, xs, e3, l3, q3⟩ := r.cel k _ hk
      rw [hb] at e1; cases e1
      obtain ⟨r2, le2⟩ := r.freeze hk hb e3
      exact ⟨_, _, _, le2, r2, by unfold Rep; exact ⟨a, xs, rfl, upd_same, l3, q3.mono le2⟩, h⟩
    . rename_i ks vs hk
      obtain ⟨a', e1, e2, xs, e3, l3, q3⟩ := r.cel k _ hk
      rw [hb] at e1; cases e1
      obtain ⟨r2, le2⟩ := r.freeze hk hb e3
      exact ⟨_, _, _, le2, r2, by unfold Rep; exact ⟨a, xs, rfl, upd_same, l3, q3.mono le2⟩, h⟩
    . rename_i C ns vs hk
      obtain ⟨a', e1, e2, C', dx, xs, hc, e3, l3, q3⟩ := r.cel k _ hk
      rw [hb] at e1; cases e1
      obtain ⟨r2, le2⟩ := r.freeze hk hb e3
      exact ⟨_, _, _, le2, r2, by unfold Rep; exact ⟨C', a, dx, xs, hc, rfl, upd_same, l3, q3.mono le2⟩, h⟩
    . exact h.elim
  . exact h.elim
theorem EnvR.set_left {W : Wd} {ρ : DEnv} {σ : St} {i : Nat} {d : D} {x : V} (r : EnvR K W ρ σ) (hx : σ[i]? = some (some x)) (q : Rep K W d x) : EnvR K W (ρ.set i (some d)) σ := ⟨by simp [r.1], fun j d' e => by
  by_cases hj : i = j
  . subst hj
    by_cases hl : i < ρ.length
    . rw [List.getElem?_set_self hl] at e
      cases e
      exact ⟨x, hx, q⟩
    . rw [List.getElem?_eq_none (by simp; omega)] at e; cases e
  . rw [List.getElem?_set_ne hj] at e
    exact r.2 j d' e⟩
instance {i : Nat} [a : SimS K fl t v] : SimS K fl (tFreeze i t) (dFreeze i v) := ⟨fun {W ρ μ σ H D' D} r e h k => by
  unfold dFreeze at h
  split at h
  . rename_i d hd
    obtain ⟨x, ex, qx⟩ := e.2 i d hd
    obtain ⟨W', d', μ', le, r', q', h'⟩ := frz_run r qx h
    exact a.run r' ((e.mono le).set_left ex q') h' (k.mono le)
  . exact h.elim⟩
end
def dLoop (g : DG) (wb : DS) (D : DEnds) (Pm : Mu -> Prop) : List L2.D -> DEnv -> Mu -> Prop
  | [], ρ, μ => Pm μ /\ D.nx ρ μ
  | d :: r, ρ, μ => Pm μ /\ g d ρ μ fun ρ2 μ2 => wb { D with nx := dLoop g wb D Pm r, ct := dLoop g wb D Pm r, bk := D.nx } ρ2 μ2
def dFor (wi : DI) (g : DG) (wb : DS) : DS := fun D ρ μ => wi ρ μ fun ds Pm μ1 => dLoop g wb D Pm ds ρ μ1
section
variable {K : PySem.W.Frag} {fl : Wd} {tb : TS} {wb : DS}
instance {wi : TI} {di : DI} {g : TG} {dg : DG} {S : List Nat} [a : SimI K fl wi di] [b : SimG K fl g dg S] [c : SimS K fl tb wb] : SimS K fl (tFor wi g tb) (dFor di dg wb) := ⟨fun {W ρ μ σ H D' D} r e h k =>
  a.run r e h fun W1 J ds Pm μ1 H1 le1 r1 it1 h1 => by
    refine ⟨fun i m σ H => ∃ W2 ρ2 μ2, W1.le W2 /\ Rel K fl W2 μ2 H /\ EnvR K W2 ρ2 σ /\ m = ds.length - i /\ dLoop dg wb D' Pm (ds.drop i) ρ2 μ2, ⟨_, W1, ρ, μ1, .refl _, r1, e.mono le1, rfl, h1⟩, ?_⟩
    rintro i m σ2 H2 ⟨W2, ρ2, μ2, le2, r2, e2, rfl, h2⟩
    have hPm : Pm μ2 := by
      cases hdr : ds.drop i with
      | nil => rw [hdr] at h2; exact h2.1
      | cons _ _ => rw [hdr] at h2; exact h2.1
    obtain ⟨go, stop⟩ := it1 W2 μ2 H2 le2 r2 hPm i
    by_cases hi : i < ds.length
    . refine .inr ?_
      have hd : ds[i]? = some ds[i] := List.getElem?_eq_getElem hi
      obtain ⟨g1, g2⟩ := go _ hd
      rw [List.drop_eq_getElem_cons hi] at h2
      obtain ⟨_, h2⟩ := h2
      refine ⟨g1, fun σ' H' => ∃ W3 ρ3 μ3, W1.le W3 /\ Rel K fl W3 μ3 H' /\ EnvR K W3 ρ3 σ' /\ dLoop dg wb D' Pm (ds.drop (i + 1)) ρ3 μ3, fun σ' H' ⟨W3, ρ3, μ3, l3, r3, e3, h3⟩ => ⟨ds.length - (i + 1), by omega, W3, ρ3, μ3, l3, r3, e3, rfl, h3⟩, fun x H' y => ?_⟩
      obtain ⟨W3, le3, r3, q3⟩ := g2 x H' y
      refine b.run r3 (e2.mono le3) q3 h2 fun W4 ρ4 μ4 σ4 H4 le4 r4 e4 _ _ h4 => c.run r4 e4 h4 ⟨fun W5 ρ5 μ5 σ5 H5 le5 r5 e5 h5 => ?_, fun W5 ρ5 μ5 σ5 H5 le5 r5 e5 h5 => ?_, fun W5 ρ5 μ5 σ5 H5 le5 r5 e5 h5 => ?_, fun W5 d5 μ5 x5 H5 le5 r5 e5 h5 => ?_⟩
      . exact ⟨W5, ρ5, μ5, le2.trans (le3.trans (le4.trans le5)), r5, e5, h5⟩
      . exact k.nx W5 ρ5 μ5 σ5 H5 (le1.trans (le2.trans (le3.trans (le4.trans le5)))) r5 e5 h5
      . exact ⟨W5, ρ5, μ5, le2.trans (le3.trans (le4.trans le5)), r5, e5, h5⟩
      . exact k.rt W5 d5 μ5 x5 H5 (le1.trans (le2.trans (le3.trans (le4.trans le5)))) r5 e5 h5
    . rw [List.drop_eq_nil_of_le (by omega)] at h2
      exact .inl ⟨stop (by omega), k.nx W2 ρ2 μ2 σ2 H2 (le1.trans le2) r2 e2 h2.2⟩⟩
end
def takeD (ρ : DEnv) (fr : List Nat) : DEnv := fr.map fun j => (ρ[j]?).join
def dCLoop (g : DG) (wc : DT) (we : DE) (ρb : DEnv) (Pm : Mu -> Prop) (Fin : List D -> Mu -> Prop) : List D -> List D -> Mu -> Prop
  | [], ys, μ => Pm μ /\ Fin ys μ
  | d :: r, ys, μ => Pm μ /\ ys.length < sizeLine /\ g d ρb μ fun ρ2 μ2 => wc ρ2 μ2 fun b μ3 => if b = true then we ρ2 μ3 fun v μ4 => dCLoop g wc we ρb Pm Fin r (ys ++ [v]) μ4 else dCLoop g wc we ρb Pm Fin r ys μ3
def dNoT : DT := fun _ μ Q => Q true μ
instance {K : PySem.W.Frag} {fl : Wd} : SimT K fl tNoT dNoT := ⟨fun {W ρ μ σ H Q Q'} r e h k => k W _ μ H (.refl W) r h⟩
def dComp (own : List Str) (fr : List Nat) (S : List Nat) (wi : DI) (g : DG) (wc : DT) (we : DE) : DE := fun ρ μ Q => (S.all fun i => decide (i < own.length)) = true /\ wi ρ μ fun ds Pm μ1 =>
  dCLoop g wc we (List.replicate own.length none ++ takeD ρ fr) Pm (fun ys μ2 => Q (.lst ys) μ2) ds [] μ1
def dCompC (own : List Str) (fr : List Nat) (S : List Nat) (wi : DI) (g : DG) (wc : DT) (we : DE) : DE := fun ρ μ Q => (S.all fun i => decide (i < own.length)) = true /\ wi ρ μ fun ds Pm μ1 =>
  dCLoop g wc we (List.replicate own.length none ++ takeD ρ fr) Pm (fun ys μ2 => ∀ k, μ2 k = none -> Q (.cell k) (mset μ2 k (.lst ys))) ds [] μ1
section
variable {K : PySem.W.Frag} {fl : Wd} {te : TE} {we : DE} {tc : TT} {wc : DT} {wi : TI} {di : DI} {g : TG} {dg : DG} {S : List Nat}
theorem EnvR.comp {W : Wd} {ρ : DEnv} {σ : St} (e : EnvR K W ρ σ) (own : List Str) (fr : List Nat) : EnvR K W (List.replicate own.length none ++ takeD ρ fr) (own.map (fun _ => none) ++ takeFrom σ fr) := by
  refine ⟨by simp [takeD, takeFrom], fun i d h => ?_⟩
  by_cases hi : i < own.length
  . rw [List.getElem?_append_left (by simp; exact hi), List.getElem?_replicate] at h
    rw [if_pos hi] at h; cases h
  . rw [List.getElem?_append_right (by simp; omega)] at h
    rw [List.getElem?_append_right (by simp; omega)]
    simp only [List.length_replicate, takeD, List.getElem?_map] at h
    simp only [List.length_map, takeFrom, List.getElem?_map]
    cases hj : fr[i - own.length]? with
    | none => rw [hj] at h; cases h
    | some j =>
      rw [hj] at h
      simp only [Option.map_some, Option.some.injEq] at h ⊢
      cases hd : ρ[j]? with
      | none => rw [hd] at h; cases h
      | some o =>
        rw [hd] at h
        obtain ⟨x, hx, q⟩ := e.2 j d (by rw [hd]; simpa using h)
        exact ⟨x, by rw [hx]; rfl, q⟩
theorem comp_sim (own : List Str) (fr : List Nat) [b : SimG K fl g dg S] [c : SimT K fl tc wc] [v : SimE K fl te we] {W1 : Wd} {ρ : DEnv} {μ1 : Mu} {σ : St} {H1 : Hp} {J : It} {ds : List D} {Pm : Mu -> Prop} {Fin : List D -> Mu -> Prop} {Fin' : List V -> Hp -> Prop} (e : EnvR K W1 ρ σ) (r1 : Rel K fl W1 μ1 H1) (it1 : ItR K fl W1 J ds Pm)
    (hS : (S.all fun i => decide (i < own.length)) = true) (h : dCLoop dg wc we (List.replicate own.length none ++ takeD ρ fr) Pm Fin ds [] μ1)
    (hF : ∀ W2 ys μ2 xs H2, W1.le W2 -> Rel K fl W2 μ2 H2 -> Reps K W2 ys xs -> Fin ys μ2 -> Fin' xs H2) :
    ∃ W : Nat -> Nat -> List V -> Hp -> Prop, (∃ m, W 0 m [] H1) /\ CompTurns J g tc te (own.map (fun _ => none) ++ takeFrom σ fr) Fin' W := by
  refine ⟨fun i m xs H => ∃ W2 ys μ2, W1.le W2 /\ Rel K fl W2 μ2 H /\ Reps K W2 ys xs /\ m = ds.length - i /\ dCLoop dg wc we (List.replicate own.length none ++ takeD ρ fr) Pm Fin (ds.drop i) ys μ2, ⟨_, W1, [], μ1, .refl _, r1, .nil, rfl, h⟩, ?_⟩
  rintro i m xs H2 ⟨W2, ys, μ2, le2, r2, q2, rfl, h2⟩
  have hPm : Pm μ2 := by
    cases hdr : ds.drop i with
    | nil => rw [hdr] at h2; exact h2.1
    | cons _ _ => rw [hdr] at h2; exact h2.1
  obtain ⟨go, stop⟩ := it1 W2 μ2 H2 le2 r2 hPm i
  by_cases hi : i < ds.length
  . refine .inr ?_
    have hd : ds[i]? = some ds[i] := List.getElem?_eq_getElem hi
    obtain ⟨g1, g2⟩ := go _ hd
    rw [List.drop_eq_getElem_cons hi] at h2
    obtain ⟨_, hz, h2⟩ := h2
    refine ⟨g1, by rw [q2.length]; exact hz, fun xs' H' => ∃ W3 ys3 μ3, W1.le W3 /\ Rel K fl W3 μ3 H' /\ Reps K W3 ys3 xs' /\ dCLoop dg wc we (List.replicate own.length none ++ takeD ρ fr) Pm Fin (ds.drop (i + 1)) ys3 μ3, fun xs' H' ⟨W3, ρ3, μ3, l3, r3, e3, h3⟩ => ⟨ds.length - (i + 1), by omega, W3, ρ3, μ3, l3, r3, e3, rfl, h3⟩, fun x H' y => ?_⟩
    obtain ⟨W3, le3, r3, q3⟩ := g2 x H' y
    refine b.run r3 (((e.comp own fr).mono le2).mono le3) q3 h2 fun W4 ρ4 μ4 σ4 H4 le4 r4 e4 l4 s4 h4 => ⟨⟨l4.symm, fun j v hj => ?_⟩, ?_⟩
    . by_cases hjS : j ∈ S
      . have : j < own.length := of_decide_eq_true (List.all_eq_true.mp hS j hjS)
        rw [List.getElem?_append_left (by simp; exact this), List.getElem?_map, List.getElem?_eq_getElem this] at hj
        cases hj
      . rw [s4 j hjS]; exact hj
    . refine c.run r4 e4 h4 fun W5 bb μ5 H5 le5 r5 h5 => ?_
      cases bb with
      | true => exact v.run r5 (e4.mono le5) h5 fun W6 d6 μ6 x6 H6 le6 r6 q6 h6 => ⟨W6, _, μ6, le2.trans (le3.trans (le4.trans (le5.trans le6))), r6, (q2.mono (le3.trans (le4.trans (le5.trans le6)))).append (.cons q6 .nil), h6⟩
      | false => exact ⟨W5, ys, μ5, le2.trans (le3.trans (le4.trans le5)), r5, q2.mono (le3.trans (le4.trans le5)), h5⟩
  . rw [List.drop_eq_nil_of_le (by omega)] at h2
    exact .inl ⟨stop (by omega), hF W2 ys μ2 xs H2 le2 r2 q2 h2.2⟩
instance {own : List Str} {fr : List Nat} [a : SimI K fl wi di] [b : SimG K fl g dg S] [c : SimT K fl tc wc] [v : SimE K fl te we] : SimE K fl (tComp own fr wi g tc te) (dComp own fr S di dg wc we) := ⟨fun {W ρ μ σ H Q Q'} r e h k =>
  a.run r e h.2 fun W1 J ds Pm μ1 H1 le1 r1 it1 h1 => comp_sim own fr (e.mono le1) r1 it1 h.1 h1 fun W2 ys μ2 xs H2 le2 r2 q2 h2 p hp => by
    obtain ⟨r3, le3⟩ := r2.newF (o := .lst xs) hp
    exact k _ _ _ _ _ (le1.trans (le2.trans le3)) r3 (.lst upd_same (q2.mono le3)) h2⟩
instance {own : List Str} {fr : List Nat} [a : SimI K fl wi di] [b : SimG K fl g dg S] [c : SimT K fl tc wc] [v : SimE K fl te we] : SimE K fl (tThaw (tComp own fr wi g tc te)) (dCompC own fr S di dg wc we) := ⟨fun {W ρ μ σ H Q Q'} r e h k =>
  a.run r e h.2 fun W1 J ds Pm μ1 H1 le1 r1 it1 h1 => comp_sim own fr (e.mono le1) r1 it1 h.1 h1 fun W2 ys μ2 xs H2 le2 r2 q2 h2 p hp => new_cell (le1.trans le2) r2 q2 hp k h2⟩
end
def lift (K : PySem.W.Frag) (dsp : DSp) : Sp := fun vs H Q _ => ∃ fl W μ ds Q0, Rel K fl W μ H /\ Reps K W ds vs /\ dsp ds μ Q0 /\ KV' K fl W Q0 Q
def dCall (dsp : DSp) (w : DA) : DE := fun ρ μ Q => w ρ μ fun ds μ1 => dsp ds μ1 Q
instance {K : PySem.W.Frag} {fl : Wd} {dsp : DSp} {E : XK} {t : TA} {w : DA} [a : SimA K fl t w] : SimE K fl (tCall (lift K dsp) [] E t) (dCall dsp w) := ⟨fun {W ρ μ σ H Q Q'} r e h k =>
  a.run r e h fun W1 ds μ1 xs H1 le1 r1 q1 h1 => ⟨fl, W1, μ1, ds, Q, r1, by rw [List.append_nil]; exact q1, h1, fun W2 d μ2 x H2 le2 => k W2 d μ2 x H2 (le1.trans le2)⟩⟩
def startD (N : List Str) (ds : List D) : DEnv := ds.map some ++ List.replicate (N.length - ds.length) none
theorem EnvR.start {K : PySem.W.Frag} {W : Wd} {N : List Str} {ds : List D} {vs : List V} (h : Reps K W ds vs) : EnvR K W (startD N ds) (start N vs) := by
  refine ⟨by simp [startD, start0, h.length], fun i d e => ?_⟩
  unfold startD at e
  rw [start0]
  by_cases hi : i < ds.length
  . rw [List.getElem?_append_left (by simp; exact hi), List.getElem?_map, List.getElem?_eq_getElem hi] at e
    simp only [Option.map_some, Option.some.injEq] at e
    obtain ⟨x, hx, q⟩ := h.get (i := i) (d := d) (by rw [List.getElem?_eq_getElem hi, e])
    exact ⟨x, by rw [List.getElem?_append_left (by simp [h.length]; exact hi), List.getElem?_map, hx]; rfl, q⟩
  . rw [List.getElem?_append_right (by simp; omega), List.getElem?_replicate] at e
    split at e <;> cases e
section
variable {P : Program} {w : World} {K : PySem.W.Frag} {fl : Wd} {mg : Str -> Option Value} {base : Heap}
end
end L2

namespace L2
open PySem PySem.Spec PyProof.Rows
section
variable {X : Cx}
end
def lookL (μ : Mu) : D -> Option (List D)
  | .lst ds => some ds
  | .cell k => match μ k with
    | some (.lst ds) => some ds
    | _ => none
  | _ => none
def lookQ (μ : Mu) : D -> Option (List D)
  | .tup ds => some ds
  | d => lookL μ d
section
variable {K : PySem.W.Frag} {fl : Wd} {W : Wd} {μ : Mu} {H : Hp} {d : D} {x : V} {ds : List D}
theorem lookL_run (r : Rel K fl W μ H) (q : Rep K W d x) (h : lookL μ d = some ds) : ∃ a xs, x = .ref a /\ H a = some (.lst xs) /\ Reps K W ds xs := by
  unfold lookL at h
  split at h
  . cases h
    obtain ⟨a, xs, rfl, e, z⟩ := q.lst'
    exact ⟨a, xs, rfl, r.sub _ _ e, z⟩
  . rename_i k
    obtain ⟨a, rfl, hb⟩ := q.cell'
    split at h
    . rename_i ds' hk
      cases h
      obtain ⟨a', e1, e2, xs, e3, q3⟩ := r.cel k _ hk
      rw [hb] at e1; cases e1
      exact ⟨a, xs, rfl, e3, q3⟩
    . cases h
  . cases h
theorem lookQ_run (r : Rel K fl W μ H) (q : Rep K W d x) (h : lookQ μ d = some ds) : ∃ a xs, x = .ref a /\ (SqL K H a xs \/ SqT K H a xs) /\ Reps K W ds xs := by
  unfold lookQ at h
  split at h
  . cases h
    obtain ⟨a, xs, rfl, e, z⟩ := q.tup'
    exact ⟨a, xs, rfl, .inr (e.sm r.sub), z⟩
  . obtain ⟨a, xs, rfl, e, z⟩ := lookL_run r q h
    exact ⟨a, xs, rfl, .inl (SqL.of e), z⟩
end
section
variable {X : Cx}
end
def rAddS : R2 := fun x y H Q => ∃ i j, x = .str i /\ y = .str j /\ i.length + j.length <= sizeLine /\ Q (.str (i ++ j)) H
def rAddI : R2 := rI0 fun i j => .int (i + j)
def rAddG (K : PySem.W.Frag) : R2 := fun x y H Q => rAddI x y H Q \/ rAddS x y H Q \/ rCat x y H Q \/ rCatT K x y H Q
theorem op_addG {X : Cx} (K : PySem.W.Frag) (h : X.K = K := by rfl) : OpR X (binaryOp .Add) (rAddG K) := h ▸ op_add.or (op_add_str.or (op_cat.or op_catT))
def dAdd : DR2 := fun d e μ Q => match d, e with
  | .int i, .int j => Q (.int (i + j)) μ
  | .str a, .str b => a.length + b.length <= sizeLine /\ Q (.str (a ++ b)) μ
  | .tup a, .tup b => a ≠ [] /\ a.length + b.length <= sizeLine /\ Q (.tup (a ++ b)) μ
  | d, e => ∃ a b, lookL μ d = some a /\ lookL μ e = some b /\ a.length + b.length <= sizeLine /\ Q (.lst (a ++ b)) μ
instance {K : PySem.W.Frag} {fl : Wd} : SimR2 K fl (rAddG K) dAdd := ⟨fun {W μ H d e x y Q Q'} r q1 q2 h k => by
  unfold dAdd at h
  split at h
  . rw [q1.i', q2.i']; exact .inl ⟨_, _, rfl, rfl, k _ _ _ _ _ (.refl _) r .i h⟩
  . rw [q1.s', q2.s']; exact .inr (.inl ⟨_, _, rfl, rfl, h.1, k _ _ _ _ _ (.refl _) r .s h.2⟩)
  . rename_i a b
    obtain ⟨p, xs, rfl, s1, z1⟩ := q1.tup'
    obtain ⟨p', ys, rfl, s2, z2⟩ := q2.tup'
    obtain ⟨hn, hz, h⟩ := h
    refine .inr (.inr (.inr ⟨p, p', xs, ys, rfl, rfl, s1.sm r.sub, s2.sm r.sub, fun z => ?_, by rw [z1.length, z2.length]; exact hz, fun z => ?_, fun _ q hq => ?_⟩))
    . have := z1.length
      rw [z] at this
      exact hn (List.length_eq_zero_iff.mp this.symm)
    . have := z2.length
      rw [z] at this
      have e : b = [] := List.length_eq_zero_iff.mp this.symm
      subst e
      rw [List.append_nil] at h
      exact k _ _ _ _ _ (.refl _) r q1 h
    . obtain ⟨r2, le2⟩ := r.newF (o := .tup (xs ++ ys)) hq
      exact k _ _ _ _ _ le2 r2 (.tup (SqT.of upd_same) ((z1.mono le2).append (z2.mono le2))) h
  . obtain ⟨a, b, e1, e2, hz, h⟩ := h
    obtain ⟨p, xs, rfl, s1, z1⟩ := lookL_run r q1 e1
    obtain ⟨p', ys, rfl, s2, z2⟩ := lookL_run r q2 e2
    refine .inr (.inr (.inl ⟨p, p', xs, ys, rfl, rfl, s1, s2, by rw [z1.length, z2.length]; exact hz, fun q hq => ?_⟩))
    obtain ⟨r2, le2⟩ := r.newF (o := .lst (xs ++ ys)) hq
    exact k _ _ _ _ _ le2 r2 (.lst upd_same ((z1.mono le2).append (z2.mono le2))) h⟩
def dI (C : Int -> Int -> Prop) (g : Int -> Int -> D) : DR2 := fun d e μ Q => match d, e with
  | .int i, .int j => C i j /\ Q (g i j) μ
  | _, _ => False
def dI0 (g : Int -> Int -> D) : DR2 := fun d e μ Q => match d, e with
  | .int i, .int j => Q (g i j) μ
  | _, _ => False
section
variable {K : PySem.W.Frag} {fl : Wd}
theorem dI_sim {C : Int -> Int -> Prop} {g : Int -> Int -> V} {g' : Int -> Int -> D} (hg : ∀ W i j, Rep K W (g' i j) (g i j)) : SimR2 K fl (rI C g) (dI C g') := ⟨fun {W μ H d e x y Q Q'} r q1 q2 h k => by
  unfold dI at h
  split at h
  . rw [q1.i', q2.i']; exact ⟨_, _, rfl, rfl, h.1, k _ _ _ _ _ (.refl _) r (hg _ _ _) h.2⟩
  . exact h.elim⟩
theorem dI0_sim {g : Int -> Int -> V} {g' : Int -> Int -> D} (hg : ∀ W i j, Rep K W (g' i j) (g i j)) : SimR2 K fl (rI0 g) (dI0 g') := ⟨fun {W μ H d e x y Q Q'} r q1 q2 h k => by
  unfold dI0 at h
  split at h
  . rw [q1.i', q2.i']; exact ⟨_, _, rfl, rfl, k _ _ _ _ _ (.refl _) r (hg _ _ _) h⟩
  . exact h.elim⟩
end
def dSub : DR2 := dI0 fun i j => .int (i - j)
def dFdiv : DR2 := dI CDivB fun i j => .int (i / j)
def dMod : DR2 := dI (fun _ j => 0 < j) fun i j => .int (i % j)
def dPow : DR2 := dI CPow fun i j => .int (i ^ j.toNat)
def dLt : DR2 := dI0 fun i j => .bl (decide (i < j))
def dLe : DR2 := dI0 fun i j => .bl (decide (i <= j))
def dGt : DR2 := dI0 fun i j => .bl (decide (j < i))
def dGe : DR2 := dI0 fun i j => .bl (decide (j <= i))
def dNeg : DR1 := fun d μ Q => match d with
  | .int i => Q (.int (-i)) μ
  | _ => False
section
variable {K : PySem.W.Frag} {fl : Wd}
instance : SimR2 K fl (rI0 fun i j => .int (i - j)) dSub := dI0_sim fun _ _ _ => .i
instance : SimR2 K fl (rI CDivB fun i j => .int (i / j)) dFdiv := dI_sim fun _ _ _ => .i
instance : SimR2 K fl (rI CPow fun i j => .int (i ^ j.toNat)) dPow := dI_sim fun _ _ _ => .i
instance : SimR2 K fl (rI0 fun i j => .bl (decide (i < j))) dLt := dI0_sim fun _ _ _ => .b
instance : SimR2 K fl (rI0 fun i j => .bl (decide (i <= j))) dLe := dI0_sim fun _ _ _ => .b
instance : SimR2 K fl (rI0 fun i j => .bl (decide (j < i))) dGt := dI0_sim fun _ _ _ => .b
instance : SimR1 K fl (rU fun i => .int (-i)) dNeg := ⟨fun {W μ H d x Q Q'} r q h k => by
  unfold dNeg at h
  split at h
  . rw [q.i']; exact ⟨_, rfl, k _ _ _ _ _ (.refl _) r .i h⟩
  . exact h.elim⟩
end
def rMulI : R2 := rI CMul fun i j => .int (i * j)
def rMulG : R2 := fun x y H Q => rMulI x y H Q \/ rRep x y H Q
theorem op_mulG {X : Cx} : OpR X (binaryOp .Mult) rMulG := op_mul.or op_rep
def dMul : DR2 := fun d e μ Q => match d, e with
  | .int i, .int j => CMul i j /\ Q (.int (i * j)) μ
  | d, .int j => ∃ a, lookL μ d = some a /\ -(2 ^ 63) <= j /\ j < 2 ^ 63 /\ a.length * j.toNat <= sizeLine /\ Q (.lst (List.replicate j.toNat a).flatten) μ
  | _, _ => False
theorem Reps.rep {K : PySem.W.Frag} {W : Wd} {ds : List D} {xs : List V} (h : Reps K W ds xs) : ∀ n : Nat, Reps K W (List.replicate n ds).flatten (List.replicate n xs).flatten
  | 0 => .nil
  | n + 1 => by rw [List.replicate_succ, List.replicate_succ, List.flatten_cons, List.flatten_cons]; exact h.append (Reps.rep h n)
instance {K : PySem.W.Frag} {fl : Wd} : SimR2 K fl rMulG dMul := ⟨fun {W μ H d e x y Q Q'} r q1 q2 h k => by
  unfold dMul at h
  split at h
  . rw [q1.i', q2.i']; exact .inl ⟨_, _, rfl, rfl, h.1, k _ _ _ _ _ (.refl _) r .i h.2⟩
  . rename_i j _
    obtain ⟨a, e1, h1, h2, hz, h⟩ := h
    obtain ⟨p, xs, rfl, s1, z1⟩ := lookL_run r q1 e1
    rw [q2.i']
    refine .inr ⟨p, _, xs, rfl, rfl, s1, h1, h2, by rw [z1.length]; exact hz, fun q hq => ?_⟩
    obtain ⟨r2, le2⟩ := r.newF (o := .lst (List.replicate j.toNat xs).flatten) hq
    exact k _ _ _ _ _ le2 r2 (.lst upd_same ((z1.mono le2).rep _)) h
  . exact h.elim⟩
def dIAdd : DR2 := fun d e μ Q => match d, e with
  | .int i, .int j => Q (.int (i + j)) μ
  | .cell k, e => ∃ a b, μ k = some (.lst a) /\ lookL μ e = some b /\ a.length + b.length <= sizeLine /\ Q (.cell k) (mset μ k (.lst (a ++ b)))
  | _, _ => False
def dISub : DR2 := dI0 fun i j => .int (i - j)
def dIMul : DR2 := dI CMul fun i j => .int (i * j)
theorem Reps.atI {K : PySem.W.Frag} {W : Wd} {ds : List D} {xs : List V} {i : Int} {d : D} (h : Reps K W ds xs) (e : L2.atI ds i = some d) : ∃ x, L2.atI xs i = some x /\ Rep K W d x := by
  unfold L2.atI at *
  rw [h.length]
  cases hn : ixN ds.length i with
  | none => rw [hn] at e; cases e
  | some j =>
    rw [hn] at e
    exact h.get e
def dIx : DR2 := fun d e μ Q => match d, e with
  | .str z, .int i => z.length <= sizeLine /\ (match L2.atI z.cps.toList i with
    | some c => Q (.str ⟨#[c]⟩) μ
    | none => False)
  | d, .int i => match lookQ μ d with
    | some ds => match L2.atI ds i with
      | some v => Q v μ
      | none => False
    | none => False
  | _, _ => False
instance {K : PySem.W.Frag} {fl : Wd} : SimR2 K fl (rIx K) dIx := ⟨fun {W μ H d e x y Q Q'} r q1 q2 h k => by
  unfold dIx at h
  split at h
  . rename_i z i
    obtain ⟨hz, h⟩ := h
    split at h
    . rename_i c hc
      rw [q1.s', q2.i']
      exact .inr (.inr ⟨z, i, c, rfl, rfl, hz, hc, k _ _ _ _ _ (.refl _) r .s h⟩)
    . exact h.elim
  . rename_i i _
    split at h
    . rename_i ds hds
      obtain ⟨p, xs, rfl, s1, z1⟩ := lookQ_run r q1 hds
      split at h
      . rename_i v hv
        obtain ⟨w, ew, qw⟩ := z1.atI hv
        rw [q2.i']
        rcases s1 with s1 | s1
        . exact .inl ⟨p, xs, i, w, rfl, rfl, s1, ew, k _ _ _ _ _ (.refl _) r qw h⟩
        . exact .inr (.inl ⟨p, xs, i, w, rfl, rfl, s1, ew, k _ _ _ _ _ (.refl _) r qw h⟩)
      . exact h.elim
    . exact h.elim
  . exact h.elim⟩
theorem ix_seqK {X : Cx} (K : PySem.W.Frag) (h : X.K = K := by rfl) : IxR X (rIx K) := h ▸ ix_seq
def dNoPart : DO := fun _ μ Q => Q none μ
def dPart (w : DE) : DO := fun ρ μ Q => w ρ μ fun d μ1 => match d with
  | .int i => Q (some i) μ1
  | _ => False
abbrev DSl := D -> Option Int -> Option Int -> Mu -> DK -> Prop
class SimSl (K : PySem.W.Frag) (fl : Wd) (r : V -> Option Int -> Option Int -> Hp -> VK -> Prop) (q : DSl) : Prop where
  run : ∀ {W μ H d x lo hi Q Q'}, Rel K fl W μ H -> Rep K W d x -> q d lo hi μ Q -> KV' K fl W Q Q' -> r x lo hi H Q'
def dSl (q : DSl) (we : DE) (wl wh : DO) : DE := fun ρ μ Q => we ρ μ fun d μ1 => wl ρ μ1 fun l μ2 => wh ρ μ2 fun u μ3 => q d l u μ3 Q
section
variable {K : PySem.W.Frag} {fl : Wd} {te : TE} {we : DE} {tl th : TO} {wl wh : DO}
instance [a : SimE K fl te we] : SimO K fl (tPart te) (dPart we) := ⟨fun r e h k => a.run r e h fun W1 d μ1 x H1 le1 r1 q1 h1 => by
  cases d <;> first | exact h1.elim | skip
  exact ⟨_, q1.i', k W1 _ μ1 H1 le1 r1 h1⟩⟩
instance {r : V -> Option Int -> Option Int -> Hp -> VK -> Prop} {q : DSl} [a : SimE K fl te we] [b : SimO K fl tl wl] [c : SimO K fl th wh] [o : SimSl K fl r q] : SimE K fl (tSl r te tl th) (dSl q we wl wh) := ⟨fun r e h k =>
  a.run r e h fun W1 d μ1 x H1 le1 r1 q1 h1 => b.run r1 (e.mono le1) h1 fun W2 l μ2 H2 le2 r2 h2 => c.run r2 (e.mono (le1.trans le2)) h2 fun W3 u μ3 H3 le3 r3 h3 => o.run r3 (q1.mono (le2.trans le3)) h3 fun W4 d4 μ4 x4 H4 le4 r4 q4 h4 => k W4 d4 μ4 x4 H4 (le1.trans (le2.trans (le3.trans le4))) r4 q4 h4⟩
end
def cutD {α : Type} (xs : List α) (lo hi : Option Int) : List α := (xs.drop (HT.sIx xs.length 0 lo)).take (HT.sIx xs.length xs.length hi - HT.sIx xs.length 0 lo)
theorem Reps.cut {K : PySem.W.Frag} {W : Wd} {ds : List D} {xs : List V} (h : Reps K W ds xs) (lo hi : Option Int) : Reps K W (cutD ds lo hi) (cutV xs lo hi) := by
  unfold cutD cutV
  rw [h.length]
  exact (h.drop _).take _
def rSlG (K : PySem.W.Frag) : V -> Option Int -> Option Int -> Hp -> VK -> Prop := fun x lo hi H Q => rSlL K x lo hi H Q \/ rSlT K x lo hi H Q
theorem sl_seqK {X : Cx} (K : PySem.W.Frag) (h : X.K = K := by rfl) : SlR X (rSlG K) := h ▸ sl_list.or sl_tup
def dSlG : DSl := fun d lo hi μ Q => match d with
  | .tup ds => ¬ (HT.sIx ds.length 0 lo = 0 /\ HT.sIx ds.length ds.length hi = ds.length) /\ Q (.tup (cutD ds lo hi)) μ
  | d => match lookL μ d with
    | some ds => Q (.lst (cutD ds lo hi)) μ
    | none => False
instance {K : PySem.W.Frag} {fl : Wd} : SimSl K fl (rSlG K) dSlG := ⟨fun {W μ H d x lo hi Q Q'} r q1 h k => by
  unfold dSlG at h
  split at h
  . obtain ⟨p, xs, rfl, s1, z1⟩ := q1.tup'
    refine .inr ⟨p, xs, rfl, s1.sm r.sub, by rw [z1.length]; exact h.1, fun q hq => ?_⟩
    obtain ⟨r2, le2⟩ := r.newF (o := .tup (cutV xs lo hi)) hq
    exact k _ _ _ _ _ le2 r2 (.tup (SqT.of upd_same) ((z1.mono le2).cut _ _)) h.2
  . split at h
    . rename_i ds hds
      obtain ⟨p, xs, rfl, s1, z1⟩ := lookL_run r q1 hds
      refine .inl ⟨p, xs, rfl, SqL.of s1, fun q hq => ?_⟩
      obtain ⟨r2, le2⟩ := r.newF (o := .lst (cutV xs lo hi)) hq
      exact k _ _ _ _ _ le2 r2 (.lst upd_same ((z1.mono le2).cut _ _)) h
    . exact h.elim⟩
mutual
def toPy : D -> Option PyData
  | .non => some .none
  | .bl b => some (.bool b)
  | .int i => some (.int i)
  | .str x => some (.str x)
  | .tup ds => (toPys ds).map .tuple
  | .lst ds => (toPys ds).map .list
  | _ => none
def toPys : List D -> Option (List PyData)
  | [] => some []
  | d :: ds => match toPy d, toPys ds with
    | some p, some ps => some (p :: ps)
    | _, _ => none
end
def toPyM (μ : Mu) : D -> Option PyData
  | .cell k => match μ k with
    | some (.lst ds) => (toPys ds).map .list
    | _ => none
  | d => toPy d
section
variable {K : PySem.W.Frag} {fl : Wd} {W : Wd} {H : Hp}
mutual
theorem toPy_run (s : Same W.F H) : ∀ {d : D} {p : PyData} {x : V}, toPy d = some p -> Rep K W d x -> Dat K H p x
  | .non, _, _, e, q => by unfold toPy at e; cases e; rw [q.n']; exact .n
  | .bl _, _, _, e, q => by unfold toPy at e; cases e; rw [q.b']; exact .b
  | .int _, _, _, e, q => by unfold toPy at e; cases e; rw [q.i']; exact .i
  | .str _, _, _, e, q => by unfold toPy at e; cases e; rw [q.s']; exact .s
  | .tup ds, _, _, e, q => by
    unfold toPy at e
    obtain ⟨a, xs, rfl, h, z⟩ := q.tup'
    cases e1 : toPys ds with
    | none => rw [e1] at e; cases e
    | some ps => rw [e1] at e; cases e; exact .tup (h.sm s) (toPys_run s e1 z)
  | .lst ds, _, _, e, q => by
    unfold toPy at e
    obtain ⟨a, xs, rfl, h, z⟩ := q.lst'
    cases e1 : toPys ds with
    | none => rw [e1] at e; cases e
    | some ps => rw [e1] at e; cases e; exact .lst (SqL.of (s _ _ h)) (toPys_run s e1 z)
  | .ty _, _, _, e, _ => by unfold toPy at e; cases e
  | .cls _, _, _, e, _ => by unfold toPy at e; cases e
  | .scr _, _, _, e, _ => by unfold toPy at e; cases e
  | .cell _, _, _, e, _ => by unfold toPy at e; cases e
  | .dct _ _, _, _, e, _ => by unfold toPy at e; cases e
  | .dtt _ _, _, _, e, _ => by unfold toPy at e; cases e
  | .obj _ _ _, _, _, e, _ => by unfold toPy at e; cases e
theorem toPys_run (s : Same W.F H) : ∀ {ds : List D} {ps : List PyData} {xs : List V}, toPys ds = some ps -> Reps K W ds xs -> Dats K H ps xs
  | [], _, _, e, q => by unfold toPys at e; cases e; rw [q.nil']; exact .nil
  | d :: ds, _, _, e, q => by
    unfold toPys at e
    obtain ⟨x, r, rfl, q1, q2⟩ := q.uncons
    cases e1 : toPy d with
    | none => rw [e1] at e; cases e
    | some p =>
      cases e2 : toPys ds with
      | none => rw [e1, e2] at e; cases e
      | some ps => rw [e1, e2] at e; cases e; exact .cons (toPy_run s e1 q1) (toPys_run s e2 q2)
end
theorem toPyM_run {μ : Mu} {d : D} {p : PyData} {x : V} (r : Rel K fl W μ H) (e : toPyM μ d = some p) (q : Rep K W d x) : Dat K H p x := by
  unfold toPyM at e
  split at e
  . rename_i k
    obtain ⟨a, rfl, hb⟩ := q.cell'
    split at e
    . rename_i ds hk
      obtain ⟨a', e1, e2, xs, e3, q3⟩ := r.cel k _ hk
      rw [hb] at e1; cases e1
      cases e4 : toPys ds with
      | none => rw [e4] at e; cases e
      | some ps => rw [e4] at e; cases e; exact .lst (SqL.of e3) (toPys_run r.sub e4 q3)
    . cases e
  . exact toPy_run r.sub e q
end
def rEqD (K : PySem.W.Frag) (neg : Bool) : R2 := fun x y H Q => ∃ d d', Dat K H d x /\ Dat K H d' y /\ EqOk d /\ EqOk d' /\ Q (.bl (if neg then !PyData.eqv d d' else PyData.eqv d d')) H
def rEqG (K : PySem.W.Frag) : R2 := fun x y H Q => rEq x y H Q \/ rEqD K false x y H Q
def rNeG (K : PySem.W.Frag) : R2 := fun x y H Q => rNe x y H Q \/ rEqD K true x y H Q
theorem op_eqG {X : Cx} (K : PySem.W.Frag) {k : Nat} {cm : Bool} (hr : RoomC cm k X.A) (h : X.K = K := by rfl) : OpR X (compareOp .Eq) (rEqG K) := op_eq.or (op_eqK K hr h)
theorem op_neG {X : Cx} (K : PySem.W.Frag) {k : Nat} {cm : Bool} (hr : RoomC cm k X.A) (h : X.K = K := by rfl) : OpR X (compareOp .NotEq) (rNeG K) := op_ne.or (op_neK K hr h)
def dEqN (neg : Bool) : DR2 := fun d e μ Q => match d, e with
  | .int i, .int j => Q (.bl (neg ^^ decide (i = j))) μ
  | .str i, .str j => Q (.bl (neg ^^ decide (i = j))) μ
  | .bl i, .bl j => Q (.bl (neg ^^ decide (i = j))) μ
  | d, e => match toPyM μ d, toPyM μ e with
    | some p, some q => EqOk p /\ EqOk q /\ Q (.bl (neg ^^ PyData.eqv p q)) μ
    | _, _ => False
def dEq : DR2 := dEqN false
def dNe : DR2 := dEqN true
theorem dV_int (i j : Int) : decide (V.int i = V.int j) = decide (i = j) := by by_cases h : i = j <;> simp [h]
theorem dV_str (i j : Str) : decide (V.str i = V.str j) = decide (i = j) := by by_cases h : i = j <;> simp [h]
theorem dV_bl (i j : Bool) : decide (V.bl i = V.bl j) = decide (i = j) := by by_cases h : i = j <;> simp [h]
instance {K : PySem.W.Frag} {fl : Wd} : SimR2 K fl (rEqG K) dEq := ⟨fun {W μ H d e x y Q Q'} r q1 q2 h k => by
  unfold dEq dEqN at h
  simp only [Bool.false_xor] at h
  split at h
  . rw [q1.i', q2.i']; exact .inl ⟨rfl, k _ _ _ _ _ (.refl _) r (by rw [dV_int]; exact .b) h⟩
  . rw [q1.s', q2.s']; exact .inl ⟨rfl, k _ _ _ _ _ (.refl _) r (by rw [dV_str]; exact .b) h⟩
  . rw [q1.b', q2.b']; exact .inl ⟨rfl, k _ _ _ _ _ (.refl _) r (by rw [dV_bl]; exact .b) h⟩
  . split at h
    . rename_i p q e1 e2
      exact .inr ⟨p, q, toPyM_run r e1 q1, toPyM_run r e2 q2, h.1, h.2.1, k _ _ _ _ _ (.refl _) r .b h.2.2⟩
    . exact h.elim⟩
instance {K : PySem.W.Frag} {fl : Wd} : SimR2 K fl (rNeG K) dNe := ⟨fun {W μ H d e x y Q Q'} r q1 q2 h k => by
  unfold dNe dEqN at h
  simp only [Bool.true_xor] at h
  split at h
  . rw [q1.i', q2.i']; exact .inl ⟨rfl, k _ _ _ _ _ (.refl _) r (by rw [dV_int]; exact .b) h⟩
  . rw [q1.s', q2.s']; exact .inl ⟨rfl, k _ _ _ _ _ (.refl _) r (by rw [dV_str]; exact .b) h⟩
  . rw [q1.b', q2.b']; exact .inl ⟨rfl, k _ _ _ _ _ (.refl _) r (by rw [dV_bl]; exact .b) h⟩
  . split at h
    . rename_i p q e1 e2
      exact .inr ⟨p, q, toPyM_run r e1 q1, toPyM_run r e2 q2, h.1, h.2.1, k _ _ _ _ _ (.refl _) r .b h.2.2⟩
    . exact h.elim⟩
def rNotN : R2 := fun x y H Q => y = .non /\ Q (.bl (!decide (x = .non))) H
def isNon : D -> Bool
  | .non => true
  | _ => false
def dIs : DR2 := fun d e μ Q => match e with
  | .non => Q (.bl (isNon d)) μ
  | _ => False
def dIsNot : DR2 := fun d e μ Q => match e with
  | .non => Q (.bl (!isNon d)) μ
  | _ => False
theorem isNon_run {K : PySem.W.Frag} {W : Wd} {d : D} {x : V} (q : Rep K W d x) : decide (x = .non) = isNon d := by
  have := q.is_non
  cases d <;> simp_all [isNon]
instance {K : PySem.W.Frag} {fl : Wd} : SimR2 K fl rNotN dIsNot := ⟨fun {W μ H d e x y Q Q'} r q1 q2 h k => by
  unfold dIsNot at h
  split at h
  . rw [q2.n']; exact ⟨rfl, k _ _ _ _ _ (.refl _) r (by rw [isNon_run q1]; exact .b) h⟩
  . exact h.elim⟩
def flatD : D -> Option V
  | .non => some .non
  | .bl b => some (.bl b)
  | .int i => some (.int i)
  | .str x => some (.str x)
  | _ => none
def flatDs : List D -> Option (List V)
  | [] => some []
  | d :: ds => match flatD d, flatDs ds with
    | some x, some xs => some (x :: xs)
    | _, _ => none
theorem flatD_run {K : PySem.W.Frag} {W : Wd} {d : D} {x v : V} (e : flatD d = some v) (q : Rep K W d x) : x = v /\ flatV v = true := by
  cases d <;> simp only [flatD, Option.some.injEq, reduceCtorEq] at e
  . rw [<- e]; exact ⟨q.n', rfl⟩
  . rw [<- e]; exact ⟨q.b', rfl⟩
  . rw [<- e]; exact ⟨q.i', rfl⟩
  . rw [<- e]; exact ⟨q.s', rfl⟩
theorem flatDs_run {K : PySem.W.Frag} {W : Wd} : ∀ {ds : List D} {xs vs : List V}, flatDs ds = some vs -> Reps K W ds xs -> xs = vs /\ vs.all flatV = true
  | [], _, _, e, q => by unfold flatDs at e; cases e; exact ⟨q.nil', rfl⟩
  | d :: ds, _, _, e, q => by
    unfold flatDs at e
    obtain ⟨x, r, rfl, q1, q2⟩ := q.uncons
    cases e1 : flatD d with
    | none => rw [e1] at e; cases e
    | some v =>
      cases e2 : flatDs ds with
      | none => rw [e1, e2] at e; cases e
      | some vs =>
        rw [e1, e2] at e; cases e
        obtain ⟨a, b⟩ := flatD_run e1 q1
        obtain ⟨c, f⟩ := flatDs_run e2 q2
        exact ⟨by rw [a, c], by rw [List.all_cons, b, f]; rfl⟩
def dInN (neg : Bool) : DR2 := fun d e μ Q => match lookQ μ e with
  | some ds => match flatD d, flatDs ds with
    | some v, some vs => Q (.bl (if neg then !inV v vs else inV v vs)) μ
    | _, _ => False
  | none => False
instance {K : PySem.W.Frag} {fl : Wd} {neg : Bool} : SimR2 K fl (rIn K neg) (dInN neg) := ⟨fun {W μ H d e x y Q Q'} r q1 q2 h k => by
  unfold dInN at h
  split at h
  . rename_i ds hds
    obtain ⟨p, xs, rfl, s1, z1⟩ := lookQ_run r q2 hds
    split at h
    . rename_i v vs e1 e2
      obtain ⟨a, b⟩ := flatD_run e1 q1
      obtain ⟨c, f⟩ := flatDs_run e2 z1
      subst a c
      exact ⟨p, _, rfl, s1, b, f, k _ _ _ _ _ (.refl _) r .b h⟩
    . exact h.elim
  . exact h.elim⟩
end L2

namespace L2
open PySem PySem.Spec PyProof.Rows
def dCB (q : DRs) (w : DA) : DE := fun ρ μ Q => w ρ μ fun ds μ1 => q ds μ1 Q
instance {K : PySem.W.Frag} {fl : Wd} {r : List V -> Hp -> VK -> Prop} {q : DRs} {t : TA} {w : DA} [a : SimA K fl t w] [o : SimRs K fl r q] : SimE K fl (tCB r t) (dCB q w) := ⟨fun r e h k =>
  a.run r e h fun W1 ds μ1 xs H1 le1 r1 q1 h1 => o.run r1 q1 h1 fun W2 d μ2 x H2 le2 => k W2 d μ2 x H2 (le1.trans le2)⟩
section
variable {X : Cx} (K : PySem.W.Frag)
def rLenQ : List V -> Hp -> VK -> Prop := fun xs H Q => ∃ p ys, xs = [.ref p] /\ (SqL K H p ys \/ SqT K H p ys) /\ Q (.int ys.length) H
def rLenS : List V -> Hp -> VK -> Prop := fun xs H Q => ∃ z, xs = [.str z] /\ z.length <= sizeLine /\ Q (.int z.length) H
def rLenG : List V -> Hp -> VK -> Prop := fun xs H Q => rLenQ K xs H Q \/ rLenS xs H Q
theorem call_lenG (h : X.K = K := by rfl) : CallR X (.builtin "len") (rLenG K) := h ▸ call_len_seq.or call_len_str
def rMax2 : List V -> Hp -> VK -> Prop := fun xs H Q => ∃ i j, xs = [.int i, .int j] /\ Q (.int (if j > i then j else i)) H
def rMaxL : List V -> Hp -> VK -> Prop := fun xs H Q => ∃ p ns, xs = [.ref p] /\ SqL K H p (ns.map V.int) /\ ns ≠ [] /\ ∀ M ∈ ns, (∀ a ∈ ns, a <= M) -> Q (.int M) H
def rMaxG : List V -> Hp -> VK -> Prop := fun xs H Q => rMax2 xs H Q \/ rMaxL K xs H Q
def rMin2 : List V -> Hp -> VK -> Prop := fun xs H Q => ∃ i j, xs = [.int i, .int j] /\ Q (.int (if j < i then j else i)) H
def rMinL : List V -> Hp -> VK -> Prop := fun xs H Q => ∃ p ns, xs = [.ref p] /\ SqL K H p (ns.map V.int) /\ ns ≠ [] /\ ∀ M ∈ ns, (∀ a ∈ ns, M <= a) -> Q (.int M) H
def rMinG : List V -> Hp -> VK -> Prop := fun xs H Q => rMin2 xs H Q \/ rMinL K xs H Q
theorem call_maxG (hc : X.calm = true := by rfl) (h : X.K = K := by rfl) : CallR X (.builtin "max") (rMaxG K) := (call_max2 hc).or (call_maxK K hc h)
theorem call_minG (hc : X.calm = true := by rfl) (h : X.K = K := by rfl) : CallR X (.builtin "min") (rMinG K) := (call_min2 hc).or (call_minK K hc h)
def rIsI : List V -> Hp -> VK -> Prop := fun xs H Q => ∃ x c t b, xs = [x, c] /\ TyOf K H x t /\ (∀ u, RelV c u -> PySem.W.kitOne K t u = some b) /\ Q (.bl b) H
def rList : List V -> Hp -> VK -> Prop := fun xs H Q => ∃ p ys, xs = [.ref p] /\ (SqL K H p ys \/ SqT K H p ys) /\ ∀ l, H l = none -> Q (.ref l) (upd H l (.lst ys))
theorem call_isiG (h : X.K = K := by rfl) : CallR X (.builtin "isinstance") (rIsI K) := call_isinstK K h
theorem call_listG (h : X.K = K := by rfl) : CallR X (.type "list") (rList K) := call_listK K h
end
def dLen : DRs := fun ds μ Q => match ds with
  | [.str z] => z.length <= sizeLine /\ Q (.int z.length) μ
  | [d] => match lookQ μ d with
    | some es => Q (.int es.length) μ
    | none => False
  | _ => False
def dAbs : DRs := fun ds μ Q => match ds with
  | [.int i] => Q (.int (if i < 0 then -i else i)) μ
  | _ => False
def intsOf : List D -> Option (List Int)
  | [] => some []
  | .int i :: r => match intsOf r with
    | some l => some (i :: l)
    | none => none
  | _ => none
def blsOf : List D -> Option (List Bool)
  | [] => some []
  | .bl i :: r => match blsOf r with
    | some l => some (i :: l)
    | none => none
  | _ => none
theorem intsOf_eq : ∀ {ds : List D} {ns : List Int}, intsOf ds = some ns -> ds = ns.map D.int
  | [], _, h => by cases h; rfl
  | d :: r, ns, h => by
    cases d <;> simp only [intsOf, reduceCtorEq] at h
    cases e : intsOf r with
    | none => rw [e] at h; cases h
    | some l => rw [e] at h; cases h; rw [intsOf_eq e]; rfl
theorem intsOf_map : ∀ ns : List Int, intsOf (ns.map D.int) = some ns
  | [] => rfl
  | _ :: r => by rw [List.map_cons, intsOf, intsOf_map r]
def dMax : DRs := fun ds μ Q => match ds with
  | [.int i, .int j] => Q (.int (if j > i then j else i)) μ
  | [d] => match (lookL μ d).bind intsOf with
    | some ns => ns ≠ [] /\ ∀ M ∈ ns, (∀ a ∈ ns, a <= M) -> Q (.int M) μ
    | none => False
  | _ => False
def dMin : DRs := fun ds μ Q => match ds with
  | [.int i, .int j] => Q (.int (if j < i then j else i)) μ
  | [d] => match (lookL μ d).bind intsOf with
    | some ns => ns ≠ [] /\ ∀ M ∈ ns, (∀ a ∈ ns, M <= a) -> Q (.int M) μ
    | none => False
  | _ => False
def dSum : DRs := fun ds μ Q => match ds with
  | [d] => match (lookL μ d).bind intsOf with
    | some ns => Q (.int ns.sum) μ
    | none => False
  | _ => False
def dAll : DRs := fun ds μ Q => match ds with
  | [d] => match (lookL μ d).bind blsOf with
    | some bs => Q (.bl (bs.all id)) μ
    | none => False
  | _ => False
def dAny : DRs := fun ds μ Q => match ds with
  | [d] => match (lookL μ d).bind blsOf with
    | some bs => Q (.bl (bs.any id)) μ
    | none => False
  | _ => False
def dList : DRs := fun ds μ Q => match ds with
  | [d] => match lookQ μ d with
    | some es => Q (.lst es) μ
    | none => False
  | _ => False
def dListC : DRs := fun ds μ Q => match ds with
  | [d] => match lookQ μ d with
    | some es => ∀ k, μ k = none -> Q (.cell k) (mset μ k (.lst es))
    | none => False
  | _ => False
def dTuple : DRs := fun ds μ Q => match ds with
  | [d] => match lookQ μ d with
    | some es => Q (.tup es) μ
    | none => False
  | _ => False
def tyD (μ : Mu) : D -> Option String
  | .non => some "NoneType"
  | .bl _ => some "bool"
  | .int _ => some "int"
  | .str _ => some "str"
  | .lst _ => some "list"
  | .cell k => match μ k with
    | some (.lst _) => some "list"
    | some (.dct _ _) => some "dict"
    | some (.dtt _ _) => some "dict"
    | _ => none
  | .dct _ _ => some "dict"
  | .dtt _ _ => some "dict"
  | _ => none
def tyNames : List String := ["int", "bool", "str", "list", "tuple", "dict"]
def isTy (t T : String) : Bool := t == T || (t == "bool" && T == "int")
def dIsI : DRs := fun ds μ Q => match ds with
  | [d, .ty T] => match tyD μ d with
    | some t => T ∈ tyNames /\ Q (.bl (isTy t T)) μ
    | none => False
  | _ => False
section
variable {K : PySem.W.Frag} {fl : Wd} {W : Wd} {μ : Mu} {H : Hp}
theorem Reps.one {d : D} {xs : List V} (h : Reps K W [d] xs) : ∃ x, xs = [x] /\ Rep K W d x := by
  obtain ⟨x, r, rfl, q, z⟩ := h.uncons
  rw [z.nil']; exact ⟨x, rfl, q⟩
theorem Reps.two {d e : D} {xs : List V} (h : Reps K W [d, e] xs) : ∃ x y, xs = [x, y] /\ Rep K W d x /\ Rep K W e y := by
  obtain ⟨x, r, rfl, q, z⟩ := h.uncons
  obtain ⟨y, rfl, q2⟩ := z.one
  exact ⟨x, y, rfl, q, q2⟩
instance : SimRs K fl (rLenG K) dLen := ⟨fun {W μ H ds xs Q Q'} r z h k => by
  unfold dLen at h
  split at h
  . obtain ⟨x, rfl, q⟩ := z.one
    rw [q.s']; exact .inr ⟨_, rfl, h.1, k _ _ _ _ _ (.refl _) r .i h.2⟩
  . obtain ⟨x, rfl, q⟩ := z.one
    split at h
    . rename_i es he
      obtain ⟨p, ys, rfl, s1, z1⟩ := lookQ_run r q he
      exact .inl ⟨p, ys, rfl, s1, k _ _ _ _ _ (.refl _) r (by rw [z1.length]; exact .i) h⟩
    . exact h.elim
  . exact h.elim⟩
theorem look_ints {d : D} {x : V} {ns : List Int} (r : Rel K fl W μ H) (q : Rep K W d x) (h : (lookL μ d).bind intsOf = some ns) : ∃ a, x = .ref a /\ SqL K H a (ns.map V.int) := by
  cases e : lookL μ d with
  | none => rw [e] at h; cases h
  | some ds =>
    rw [e] at h
    obtain ⟨a, xs, rfl, e1, z⟩ := lookL_run r q e
    have := intsOf_eq h
    subst this
    rw [z.ints] at e1
    exact ⟨a, rfl, SqL.of e1⟩
instance : SimRs K fl (rMaxG K) dMax := ⟨fun {W μ H ds xs Q Q'} r z h k => by
  unfold dMax at h
  split at h
  . obtain ⟨x, y, rfl, q1, q2⟩ := z.two
    rw [q1.i', q2.i']; exact .inl ⟨_, _, rfl, k _ _ _ _ _ (.refl _) r .i h⟩
  . obtain ⟨x, rfl, q⟩ := z.one
    split at h
    . rename_i ns hn
      obtain ⟨a, rfl, s⟩ := look_ints r q hn
      exact .inr ⟨a, ns, rfl, s, h.1, fun M hM hb => k _ _ _ _ _ (.refl _) r .i (h.2 M hM hb)⟩
    . exact h.elim
  . exact h.elim⟩
instance : SimRs K fl (rMinG K) dMin := ⟨fun {W μ H ds xs Q Q'} r z h k => by
  unfold dMin at h
  split at h
  . obtain ⟨x, y, rfl, q1, q2⟩ := z.two
    rw [q1.i', q2.i']; exact .inl ⟨_, _, rfl, k _ _ _ _ _ (.refl _) r .i h⟩
  . obtain ⟨x, rfl, q⟩ := z.one
    split at h
    . rename_i ns hn
      obtain ⟨a, rfl, s⟩ := look_ints r q hn
      exact .inr ⟨a, ns, rfl, s, h.1, fun M hM hb => k _ _ _ _ _ (.refl _) r .i (h.2 M hM hb)⟩
    . exact h.elim
  . exact h.elim⟩
instance : SimRs K fl (rList K) dList := ⟨fun {W μ H ds xs Q Q'} r z h k => by
  unfold dList at h
  split at h
  . obtain ⟨x, rfl, q⟩ := z.one
    split at h
    . rename_i es he
      obtain ⟨p, ys, rfl, s1, z1⟩ := lookQ_run r q he
      refine ⟨p, ys, rfl, s1, fun l hl => ?_⟩
      obtain ⟨r2, le2⟩ := r.newF (o := .lst ys) hl
      exact k _ _ _ _ _ le2 r2 (.lst upd_same (z1.mono le2)) h
    . exact h.elim
  . exact h.elim⟩
instance {t : TA} {w : DA} [a : SimA K fl t w] : SimE K fl (tThaw (tCB (rList K) t)) (dCB dListC w) := ⟨fun r e h k =>
  a.run r e h fun W1 ds μ1 xs H1 le1 r1 z h => by
    unfold dListC at h
    split at h
    . obtain ⟨x, rfl, q⟩ := z.one
      split at h
      . rename_i es he
        obtain ⟨p, ys, rfl, s1, z1⟩ := lookQ_run r1 q he
        exact ⟨p, ys, rfl, s1, fun l hl => new_cell le1 r1 z1 hl k h⟩
      . exact h.elim
    . exact h.elim⟩
theorem ty_run {d : D} {x : V} {t : String} (r : Rel K fl W μ H) (q : Rep K W d x) (h : tyD μ d = some t) : TyOf K H x (.type t) := by
  unfold tyD at h
  split at h <;> try cases h
  . rw [q.n']; exact .non
  . rw [q.b']; exact .bl _
  . rw [q.i']; exact .int _
  . rw [q.s']; exact .str _
  . obtain ⟨a, xs, rfl, e, z⟩ := q.lst'; exact .lst (r.sub _ _ e)
  . rename_i k
    obtain ⟨a, rfl, hb⟩ := q.cell'
    split at h <;> try cases h
    . rename_i ds hk
      obtain ⟨a', e1, e2, xs, e3, q3⟩ := r.cel k _ hk
      rw [hb] at e1; cases e1
      exact .lst e3
    . rename_i ks vs hk
      obtain ⟨a', e1, e2, xs, e3, l3, q3⟩ := r.cel k _ hk
      rw [hb] at e1; cases e1
      exact .dK e3
    . rename_i ks vs hk
      obtain ⟨a', e1, e2, xs, e3, l3, q3⟩ := r.cel k _ hk
      rw [hb] at e1; cases e1
      exact .dT e3
  . unfold Rep at q; obtain ⟨a, xs, rfl, e, _⟩ := q; exact .dK (r.sub _ _ e)
  . unfold Rep at q; obtain ⟨a, xs, rfl, e, _⟩ := q; exact .dT (r.sub _ _ e)
theorem ty_names {d : D} {t : String} (h : tyD μ d = some t) : t ∈ ["NoneType", "bool", "int", "str", "list", "dict"] := by
  unfold tyD at h
  split at h <;> (try cases h) <;> (try decide)
  split at h <;> (try cases h) <;> decide
theorem kit_ty {t T : String} (h : t ∈ ["NoneType", "bool", "int", "str", "list", "dict"]) (h' : T ∈ tyNames) : PySem.W.kitOne K (.type t) (.type T) = some (isTy t T) := by
  simp only [tyNames, List.mem_cons, List.not_mem_nil, or_false] at h h'
  rcases h with rfl | rfl | rfl | rfl | rfl | rfl <;> rcases h' with rfl | rfl | rfl | rfl | rfl | rfl <;> rfl
instance : SimRs K fl (rIsI K) dIsI := ⟨fun {W μ H ds xs Q Q'} r z h k => by
  unfold dIsI at h
  split at h
  . rename_i d T
    obtain ⟨x, y, rfl, q1, q2⟩ := z.two
    split at h
    . rename_i t ht
      unfold Rep at q2
      subst q2
      exact ⟨x, .ty T, .type t, isTy t T, rfl, ty_run r q1 ht, fun u hu => by cases hu; exact kit_ty (ty_names ht) h.1, k _ _ _ _ _ (.refl _) r .b h.2⟩
    . exact h.elim
  . exact h.elim⟩
end
def iSeq (K : PySem.W.Frag) (tl : TE) : TI := fun σ H R => tl σ H fun x H1 => (∃ a, x = .ref a /\ (∃ xs, SqL K H1 a xs) /\ R (Itl K a) H1) \/ (∃ a, x = .ref a /\ (∃ xs, SqT K H1 a xs) /\ R (Itt K a) H1) \/ ∃ y, x = .str y /\ y.cps.all (· < 128) = true /\ R (Its y) H1
theorem qi_seqK {X : Cx} {tg l : Expr} {tl : TE} (K : PySem.W.Frag) (hl : WE X l tl) (h : X.K = K := by rfl) : WI X tg l (iSeq K tl) := ⟨by
  subst h
  intro pins s σ H R I h
  refine thn (hl.out pins s σ H _ I h) fun v s1 ⟨x, H1, I1, r1, q1⟩ => ?_
  rcases q1 with ⟨a, e, ⟨xs, hq⟩, q⟩ | ⟨a, e, ⟨xs, hq⟩, q⟩ | ⟨y, e, ha, q⟩
  . subst e
    cases r1
    obtain ⟨its, rv, p, hz⟩ := I1.list hq
    refine wpAny_pyIter_list p.isList ?_
    refine ⟨s1.heap.objs.size, [s1.heap.objs.size], _, _, H1, rfl, I1.kept (t' := s1.toks) fun b o e => Heap.get?_push_of_some _ e, turn_list a _, ⟨_, Heap.get?_push_size _ rfl, rfl, rfl⟩, fun b hb => ?_, q⟩
    have e : b = s1.heap.objs.size := by simpa using hb
    subst e
    exact I1.fpOk (Nat.le_refl _) (I1.hok.fresh (Nat.le_refl _))
  . subst e
    cases r1
    obtain ⟨its, rv, p, hz⟩ := I1.tuple hq
    refine wpAny_pyIter_tuple (show s1.heap.IsTuple a its.toArray from p) ?_
    refine ⟨s1.heap.objs.size, [s1.heap.objs.size], _, _, H1, rfl, I1.kept (t' := s1.toks) fun b o e => Heap.get?_push_of_some _ e, turn_tuple a _, ⟨_, Heap.get?_push_size _ rfl, rfl, rfl⟩, fun b hb => ?_, q⟩
    have e : b = s1.heap.objs.size := by simpa using hb
    subst e
    exact I1.fpOk (Nat.le_refl _) (I1.hok.fresh (Nat.le_refl _))
  . subst e
    obtain ⟨t, rfl⟩ := r1
    refine wpAny_pyIter_ascii ha ?_
    refine ⟨s1.heap.objs.size, [s1.heap.objs.size], _, _, H1, rfl, I1.kept (t' := s1.toks) fun b o e => Heap.get?_push_of_some _ e, turn_str _ y t, ⟨_, Heap.get?_push_size _ rfl, rfl, rfl⟩, fun b hb => ?_, q⟩
    have e : b = s1.heap.objs.size := by simpa using hb
    subst e
    exact I1.fpOk (Nat.le_refl _) (I1.hok.fresh (Nat.le_refl _))⟩
def seqD : D -> Option (List D)
  | .lst ds => some ds
  | .tup ds => some ds
  | .str y => if y.cps.all (· < 128) = true then some (y.cps.toList.map fun c => .str ⟨#[c]⟩) else none
  | _ => none
def seqM (μ : Mu) (d : D) (Q : List D -> (Mu -> Prop) -> Prop) : Prop := match d with
  | .cell k => match μ k with
    | some (.lst ds) => Q ds fun μ' => μ' k = some (.lst ds)
    | _ => False
  | d => match seqD d with
    | some ds => Q ds fun _ => True
    | none => False
def diSeq (w : DE) : DI := fun ρ μ Q => w ρ μ fun d μ1 => seqM μ1 d fun ds Pm => Q ds Pm μ1
def diRng1 (w : DA) : DI := fun ρ μ Q => w ρ μ fun ds μ1 => match ds with
  | [.int j] => -(2 ^ 62) <= j /\ j < 2 ^ 62 /\ Q ((rangeL 0 j.toNat).map D.int) (fun _ => True) μ1
  | _ => False
def diRng2 (w : DA) : DI := fun ρ μ Q => w ρ μ fun ds μ1 => match ds with
  | [.int i, .int j] => (-(2 ^ 62) <= i /\ i < 2 ^ 62 /\ -(2 ^ 62) <= j /\ j < 2 ^ 62) /\ Q ((rangeL i (j - i).toNat).map D.int) (fun _ => True) μ1
  | _ => False
section
variable {K : PySem.W.Frag} {fl : Wd} {te : TE} {we : DE} {ta : TA} {wa : DA}
theorem it_range (W : Wd) (lo : Int) (n : Nat) (Pm : Mu -> Prop) : ItR K fl W (Itr lo n) ((rangeL lo n).map D.int) Pm := fun W1 μ H le r _ i => by
  constructor
  . intro d hd
    rw [List.getElem?_map] at hd
    by_cases hi : i < n
    . rw [rangeL_get hi] at hd
      cases hd
      refine ⟨hi, fun x H' y => ?_⟩
      obtain ⟨e, y⟩ := y
      subst e y
      exact ⟨W1, .refl _, r, .i⟩
    . rw [List.getElem?_eq_none (by rw [rangeL_length]; omega)] at hd
      cases hd
  . intro h
    rw [List.length_map, rangeL_length] at h
    exact h
theorem it_list {W : Wd} {p : Addr} {xs : List V} {ds : List D} {Pm : Mu -> Prop} (z1 : Reps K W ds xs) (hp : ∀ W1 μ H, W.le W1 -> Rel K fl W1 μ H -> Pm μ -> H p = some (.lst xs)) : ItR K fl W (Itl K p) ds Pm := fun W2 μ2 H2 le2 r2 pm i => by
  have s2 := hp W2 μ2 H2 le2 r2 pm
  constructor
  . intro d hd
    obtain ⟨x, ex, qx⟩ := z1.get hd
    refine ⟨⟨xs, x, SqL.of s2, ex⟩, fun y H' hy => ?_⟩
    obtain ⟨e', y'⟩ := hy
    have ey := y' xs (SqL.of s2)
    rw [ex] at ey; cases ey
    exact ⟨W2, .refl _, e' ▸ r2, qx.mono le2⟩
  . intro hl
    exact ⟨xs, SqL.of s2, by rw [z1.length]; exact hl⟩
theorem cell_list {W : Wd} {μ : Mu} {H : Hp} {k : Nat} {a : Addr} {ds : List D} (r : Rel K fl W μ H) (hb : W.b k = some a) (hk : μ k = some (.lst ds)) : ∃ xs, H a = some (.lst xs) /\ Reps K W ds xs := by
  obtain ⟨a', e1, e2, xs, e3, q3⟩ := r.cel k _ hk
  rw [hb] at e1; cases e1
  exact ⟨xs, e3, q3⟩
theorem it_cell {W : Wd} {k : Nat} {a : Addr} {ds : List D} (hb : W.b k = some a) : ItR K fl W (Itl K a) ds (fun μ' => μ' k = some (.lst ds)) := fun W2 μ2 H2 le2 r2 pm i => by
  obtain ⟨xs, s2, z1⟩ := cell_list r2 (le2.b _ _ hb) pm
  constructor
  . intro d hd
    obtain ⟨x, ex, qx⟩ := z1.get hd
    refine ⟨⟨xs, x, SqL.of s2, ex⟩, fun y H' hy => ?_⟩
    obtain ⟨e', y'⟩ := hy
    have ey := y' xs (SqL.of s2)
    rw [ex] at ey; cases ey
    exact ⟨W2, .refl _, e' ▸ r2, qx⟩
  . intro hl
    exact ⟨xs, SqL.of s2, by rw [z1.length]; exact hl⟩
instance [a : SimE K fl te we] : SimI K fl (iSeq K te) (diSeq we) := ⟨fun {W ρ μ σ H Q Q'} r e h k => a.run r e h fun W1 d μ1 x H1 le1 r1 q1 h1 => by
  unfold seqM at h1
  split at h1
  . rename_i c
    obtain ⟨p, rfl, hb⟩ := q1.cell'
    split at h1
    . rename_i ds hk
      obtain ⟨xs, s1, z1⟩ := cell_list r1 hb hk
      exact .inl ⟨p, rfl, ⟨xs, SqL.of s1⟩, k W1 _ ds _ μ1 H1 le1 r1 (it_cell hb) h1⟩
    . exact h1.elim
  . cases hd : seqD d with
    | none => rw [hd] at h1; exact h1.elim
    | some ds =>
      rw [hd] at h1
      have h1 : Q ds (fun _ => True) μ1 := h1
      unfold seqD at hd
      split at hd
      . cases hd
        obtain ⟨p, xs, rfl, s1, z1⟩ := q1.lst'
        exact .inl ⟨p, rfl, ⟨xs, SqL.of (r1.sub _ _ s1)⟩, k W1 _ ds _ μ1 H1 le1 r1 (it_list z1 fun W2 μ2 H2 le2 r2 _ => r2.sub _ _ (le2.F _ _ s1)) h1⟩
      . cases hd
        obtain ⟨p, xs, rfl, s1, z1⟩ := q1.tup'
        refine .inr (.inl ⟨p, rfl, ⟨xs, s1.sm r1.sub⟩, k W1 _ ds _ μ1 H1 le1 r1 (fun W2 μ2 H2 le2 r2 _ i => ?_) h1⟩)
        have s2 : SqT K H2 p xs := (s1.sm le2.F).sm r2.sub
        constructor
        . intro d hd
          obtain ⟨x, ex, qx⟩ := z1.get hd
          refine ⟨⟨xs, x, s2, ex⟩, fun y H' hy => ?_⟩
          obtain ⟨e', y'⟩ := hy
          have ey := y' xs s2
          rw [ex] at ey; cases ey
          exact ⟨W2, .refl _, e' ▸ r2, qx.mono le2⟩
        . intro hl
          exact ⟨xs, s2, by rw [z1.length]; exact hl⟩
      . rename_i y _
        split at hd
        . rename_i ha
          cases hd
          rw [q1.s']
          refine .inr (.inr ⟨y, rfl, ha, k W1 _ _ _ μ1 H1 le1 r1 (fun W2 μ2 H2 le2 r2 _ i => ?_) h1⟩)
          constructor
          . intro d hd
            rw [List.getElem?_map] at hd
            cases hc : y.cps.toList[i]? with
            | none => rw [hc] at hd; cases hd
            | some c =>
              rw [hc] at hd
              cases hd
              have hi : i < y.cps.size := by have := (List.getElem?_eq_some_iff.mp hc).1; rwa [Array.length_toList] at this
              refine ⟨hi, fun x H' hy => ?_⟩
              obtain ⟨e', c', hc', rfl⟩ := hy
              rw [hc] at hc'; cases hc'
              exact ⟨W2, .refl _, e' ▸ r2, .s⟩
          . intro hl
            rw [List.length_map, Array.length_toList] at hl
            exact hl
        . cases hd
      . cases hd⟩
instance [a : SimA K fl ta wa] : SimI K fl (iRng1 ta) (diRng1 wa) := ⟨fun {W ρ μ σ H Q Q'} r e h k => a.run r e h fun W1 ds μ1 xs H1 le1 r1 q1 h1 => by
  split at h1
  . obtain ⟨x, rfl, q⟩ := q1.one
    rw [q.i']
    exact ⟨_, rfl, h1.1, h1.2.1, k W1 _ _ _ μ1 H1 le1 r1 (it_range _ _ _ _) h1.2.2⟩
  . exact h1.elim⟩
end
abbrev DM := D -> List D -> Mu -> DK -> Prop
class SimM (K : PySem.W.Frag) (fl : Wd) (T : String) (r : V -> List V -> Hp -> VK -> Prop) (q : DM) : Prop where
  run : ∀ {W μ H d x ds xs Q Q'}, Rel K fl W μ H -> Rep K W d x -> Reps K W ds xs -> q d ds μ Q -> KV' K fl W Q Q' -> r x xs H Q'
def tyM (T : String) (μ : Mu) (d : D) : Prop := tyD μ d = some T
def dBM (T : String) (q : DM) (wo : DE) (w : DA) : DE := fun ρ μ Q => wo ρ μ fun d μ1 => tyM T μ1 d /\ w ρ μ1 fun ds μ2 => q d ds μ2 Q
def dBM0 (T : String) (q : DM) (wo : DE) : DE := fun ρ μ Q => wo ρ μ fun d μ1 => tyM T μ1 d /\ q d [] μ1 Q
theorem tyM_run {K : PySem.W.Frag} {fl : Wd} {W : Wd} {μ : Mu} {H : Hp} {d : D} {x : V} {T : String} (hT : T = "list" \/ T = "str" \/ T = "dict") (r : Rel K fl W μ H) (q : Rep K W d x) (h : tyM T μ d) : tyV K T x H := by
  have ty := ty_run r q h
  cases ty with
  | non => rcases hT with h | h | h <;> exact absurd h (by decide)
  | bl => rcases hT with h | h | h <;> exact absurd h (by decide)
  | int => rcases hT with h | h | h <;> exact absurd h (by decide)
  | str => rfl
  | flt => rcases hT with h | h | h <;> exact absurd h (by decide)
  | lst e => exact .inl ⟨rfl, _, SqL.of e⟩
  | frz e => exact .inl ⟨rfl, _, .inl (.inr ⟨_, e⟩)⟩
  | tup => rcases hT with h | h | h <;> exact absurd h (by decide)
  | dK e => exact .inr (.inr (.inl ⟨rfl, .inl ⟨_, e⟩⟩))
  | dT e => exact .inr (.inr (.inl ⟨rfl, .inr ⟨_, e⟩⟩))
section
variable {K : PySem.W.Frag} {fl : Wd} {to : TE} {wo : DE} {t : TA} {w : DA} {r : V -> List V -> Hp -> VK -> Prop} {q : DM}
theorem bm_sim {T : String} (hT : T = "list" \/ T = "str" \/ T = "dict") [a : SimE K fl to wo] [b : SimA K fl t w] [o : SimM K fl T r q] : SimE K fl (tBM K T r to t) (dBM T q wo w) := ⟨fun r e h k => a.run r e h fun W1 d μ1 x H1 le1 r1 q1 h1 =>
  ⟨tyM_run hT r1 q1 h1.1, b.run r1 (e.mono le1) h1.2 fun W2 ds μ2 xs H2 le2 r2 q2 h2 => o.run r2 (q1.mono le2) q2 h2 fun W3 d3 μ3 x3 H3 le3 => k W3 d3 μ3 x3 H3 (le1.trans (le2.trans le3))⟩⟩
theorem bm0_sim {T : String} (hT : T = "list" \/ T = "str" \/ T = "dict") [a : SimE K fl to wo] [o : SimM K fl T r q] : SimE K fl (tBM0 K T r to) (dBM0 T q wo) := ⟨fun r e h k => a.run r e h fun W1 d μ1 x H1 le1 r1 q1 h1 =>
  ⟨tyM_run hT r1 q1 h1.1, o.run r1 q1 .nil h1.2 fun W3 d3 μ3 x3 H3 le3 => k W3 d3 μ3 x3 H3 (le1.trans le3)⟩⟩
instance [a : SimE K fl to wo] [b : SimA K fl t w] [o : SimM K fl "list" r q] : SimE K fl (tBM K "list" r to t) (dBM "list" q wo w) := bm_sim (.inl rfl)
instance [a : SimE K fl to wo] [o : SimM K fl "list" r q] : SimE K fl (tBM0 K "list" r to) (dBM0 "list" q wo) := bm0_sim (.inl rfl)
end
def cellL (μ : Mu) (d : D) (Q : Nat -> List D -> Prop) : Prop := match d with
  | .cell k => match μ k with
    | some (.lst ds) => Q k ds
    | _ => False
  | _ => False
theorem cellL_run {K : PySem.W.Frag} {fl : Wd} {W : Wd} {μ : Mu} {H : Hp} {d : D} {x : V} {Q : Nat -> List D -> Prop} (r : Rel K fl W μ H) (q : Rep K W d x) (h : cellL μ d Q) : ∃ k ds a xs, x = .ref a /\ W.b k = some a /\ μ k = some (.lst ds) /\ H a = some (.lst xs) /\ Reps K W ds xs /\ Q k ds := by
  unfold cellL at h
  split at h
  . rename_i k
    obtain ⟨a, rfl, hb⟩ := q.cell'
    split at h
    . rename_i ds hk
      obtain ⟨a', e1, e2, xs, e3, q3⟩ := r.cel k _ hk
      rw [hb] at e1; cases e1
      exact ⟨k, ds, a, xs, rfl, hb, hk, e3, q3, h⟩
    . exact h.elim
  . exact h.elim
def dAppend : DM := fun d es μ Q => match es with
  | [e] => cellL μ d fun k ds => ds.length < sizeLine /\ Q .non (mset μ k (.lst (ds ++ [e])))
  | _ => False
def dPopM : DM := fun d es μ Q => match es with
  | [] => cellL μ d fun k ds => match ds[ds.length - 1]? with
    | some y => Q y (mset μ k (.lst ds.dropLast))
    | none => False
  | [.int i] => cellL μ d fun k ds => -(2 ^ 63) <= i /\ i < 2 ^ 63 /\ match ixN ds.length i with
    | some j => match ds[j]? with
      | some y => Q y (mset μ k (.lst (ds.eraseIdx j)))
      | none => False
    | none => False
  | _ => False
def dSetIx : D -> D -> D -> Mu -> (Mu -> Prop) -> Prop := fun d i v μ Q => match i with
  | .int i => cellL μ d fun k ds => match ixN ds.length i with
    | some j => Q (mset μ k (.lst (ds.set j v)))
    | none => False
  | _ => False
theorem Reps.dropLast {K : PySem.W.Frag} {W : Wd} {ds : List D} {xs : List V} (h : Reps K W ds xs) : Reps K W ds.dropLast xs.dropLast := by
  rw [List.dropLast_eq_take, List.dropLast_eq_take, h.length]; exact h.take _
theorem Reps.eraseIdx {K : PySem.W.Frag} {W : Wd} {ds : List D} {xs : List V} (h : Reps K W ds xs) (j : Nat) : Reps K W (ds.eraseIdx j) (xs.eraseIdx j) := by
  rw [List.eraseIdx_eq_take_drop_succ, List.eraseIdx_eq_take_drop_succ]
  exact (h.take _).append (h.drop _)
def rPopG : V -> List V -> Hp -> VK -> Prop := fun x vs H Q => rPop x vs H Q \/ rPopAt x vs H Q
theorem mt_popG {X : Cx} : MtR X "list.pop" rPopG := MtR.or mt_pop mt_popAt
class SimSet (K : PySem.W.Frag) (fl : Wd) (r : TSet) (q : D -> D -> D -> Mu -> (Mu -> Prop) -> Prop) : Prop where
  run : ∀ {W μ H d i v x y z} {Q : Mu -> Prop} {Q' : Hp -> Prop}, Rel K fl W μ H -> Rep K W d x -> Rep K W i y -> Rep K W v z -> q d i v μ Q -> (∀ W' μ' H', W.le W' -> Rel K fl W' μ' H' -> Q μ' -> Q' H') -> r x y z H Q'
def dgSub (wo wi : DE) (q : D -> D -> D -> Mu -> (Mu -> Prop) -> Prop) : DG := fun v ρ μ Q => wo ρ μ fun d μ1 => wi ρ μ1 fun i μ2 => q d i v μ2 fun μ3 => Q ρ μ3
section
variable {K : PySem.W.Frag} {fl : Wd}
instance : SimM K fl "list" rAppend dAppend := ⟨fun {W μ H d x ds xs Q Q'} r q z h k => by
  unfold dAppend at h
  split at h
  . obtain ⟨y, rfl, qy⟩ := z.one
    obtain ⟨c, es, a, ys, rfl, hb, hk, ha, z2, hz, h⟩ := cellL_run r q h
    exact ⟨a, ys, y, rfl, rfl, ha, by rw [z2.length]; exact hz, k _ _ _ _ _ (.refl _) (r.setC (c' := .lst _) hk hb ⟨_, rfl, z2.append (.cons qy .nil)⟩) .n h⟩
  . exact h.elim⟩
instance : SimM K fl "list" rPopG dPopM := ⟨fun {W μ H d x ds xs Q Q'} r q z h k => by
  unfold dPopM at h
  split at h
  . obtain ⟨c, es, a, ys, rfl, hb, hk, ha, z2, h⟩ := cellL_run r q h
    rw [z.nil']
    split at h
    . rename_i y hy
      obtain ⟨v, ev, qv⟩ := z2.get hy
      exact .inl ⟨a, ys, v, rfl, rfl, ha, by rw [z2.length]; exact ev, k _ _ _ _ _ (.refl _) (r.setC (c' := .lst _) hk hb ⟨_, rfl, z2.dropLast⟩) qv h⟩
    . exact h.elim
  . rename_i i
    obtain ⟨y, rfl, qy⟩ := z.one
    obtain ⟨c, es, a, ys, rfl, hb, hk, ha, z2, h1, h2, h⟩ := cellL_run r q h
    rw [qy.i']
    split at h
    . rename_i j hj
      split at h
      . rename_i y' hy
        obtain ⟨v, ev, qv⟩ := z2.get hy
        exact .inr ⟨a, ys, i, j, v, rfl, rfl, ha, h1, h2, by rw [z2.length]; exact (ixN_seq hj).1, ev, k _ _ _ _ _ (.refl _) (r.setC (c' := .lst _) hk hb ⟨_, rfl, z2.eraseIdx j⟩) qv h⟩
      . exact h.elim
    . exact h.elim
  . exact h.elim⟩
instance : SimSet K fl rSetL dSetIx := ⟨fun {W μ H d i v x y z Q Q'} r q qi qv h k => by
  unfold dSetIx at h
  split at h
  . obtain ⟨c, es, a, ys, rfl, hb, hk, ha, z2, h⟩ := cellL_run r q h
    split at h
    . rename_i j hj
      rw [qi.i']
      exact ⟨a, ys, _, j, rfl, rfl, ha, by rw [z2.length]; exact hj, k _ _ _ (.refl _) (r.setC (c' := .lst _) hk hb ⟨_, rfl, z2.set j qv⟩) h⟩
    . exact h.elim
  . exact h.elim⟩
instance {to ti : TE} {wo wi : DE} {r : TSet} {q : D -> D -> D -> Mu -> (Mu -> Prop) -> Prop} [a : SimE K fl to wo] [b : SimE K fl ti wi] [c : SimSet K fl r q] : SimG K fl (gSub to ti r) (dgSub wo wi q) [] := ⟨fun {W ρ μ σ H d x Q Q'} r e qd h k =>
  a.run r e h fun W1 d1 μ1 x1 H1 le1 r1 q1 h1 => b.run r1 (e.mono le1) h1 fun W2 d2 μ2 x2 H2 le2 r2 q2 h2 => c.run r2 (q1.mono le2) q2 (qd.mono (le1.trans le2)) h2 fun W3 μ3 H3 le3 r3 h3 =>
    k W3 ρ μ3 σ H3 (le1.trans (le2.trans le3)) r3 (e.mono (le1.trans (le2.trans le3))) rfl (fun _ _ => rfl) h3⟩
end
theorem draw_cell {K : PySem.W.Frag} {fl : Wd} {W : Wd} {μ : Mu} {H : Hp} {k : Nat} {a : Addr} (r : Rel K fl W μ H) (hk : μ k = some .draw) (ha : W.b k = some a) : ∃ l, DrawAt H a l /\ W.F a = none /\ (∃ ns : List Int, W.F l = some (.lst (ns.map V.int))) /\
    ∀ H', DrawAt H' a l -> OnlyAt a H H' -> Rel K fl W μ H' := by
  obtain ⟨a', e1, e2, l, ns, i, b, c, e3, e4, hi, hb⟩ := r.cel k _ hk
  rw [ha] at e1; cases e1
  have hal : a ≠ l := fun z => by rw [<- z, e2] at e4; cases e4
  refine ⟨l, ⟨ns, i, b, c, e3, r.sub _ _ e4, hi, hb, hal⟩, e2, ⟨ns, e4⟩, fun H' d o => ⟨fun x u e => ?_, r.fin, fun j ct e => ?_, r.inj, r.up⟩⟩
  . rw [o x (fun z => by rw [z, e2] at e; cases e)]; exact r.sub _ _ e
  . by_cases hj : j = k
    . subst hj
      rw [hk] at e; cases e
      obtain ⟨ns', i', b', c', f1, f2, f3, f4, f5⟩ := d
      exact ⟨a, ha, e2, l, ns, i', b', c', f1, e4, f3, f4⟩
    . obtain ⟨x, f1, f2, q⟩ := r.cel j ct e
      have hx : x ≠ a := fun z => hj (r.inj j k _ _ a e hk (z ▸ f1) ha)
      exact ⟨x, f1, f2, by rw [o x hx]; exact q⟩
class SimSp (K : PySem.W.Frag) (fl : Wd) (sp : Sp) (dsp : DSp) : Prop where
  run : ∀ {W μ H ds vs Q Q'} (E : XK), Rel K fl W μ H -> Reps K W ds vs -> dsp ds μ Q -> KV' K fl W Q Q' -> sp vs H Q' E
instance {K : PySem.W.Frag} {fl : Wd} {sp : Sp} {dsp : DSp} {E : XK} {t : TA} {w : DA} [a : SimA K fl t w] [o : SimSp K fl sp dsp] : SimE K fl (tCall sp [] E t) (dCall dsp w) := ⟨fun {W ρ μ σ H Q Q'} r e h k =>
  a.run r e h fun W1 ds μ1 xs H1 le1 r1 q1 h1 => o.run E r1 (by rw [List.append_nil]; exact q1) h1 fun W2 d μ2 x H2 le2 => k W2 d μ2 x H2 (le1.trans le2)⟩
def dspDraw : DSp := fun ds μ Q => match ds with
  | [.cell k, .int many] => μ k = some .draw /\ 0 < many /\ many < 2 ^ 250 /\ ∀ v, 0 <= v -> v < many -> Q (.int v) μ
  | _ => False
instance {K : PySem.W.Frag} {fl : Wd} : SimSp K fl spDrawL dspDraw := ⟨fun {W μ H ds vs Q Q'} E r z h k => by
  unfold dspDraw at h
  split at h
  . rename_i c many
    obtain ⟨x, y, rfl, q1, q2⟩ := z.two
    obtain ⟨a, rfl, hb⟩ := q1.cell'
    rw [q2.i']
    obtain ⟨hk, h1, h2, h⟩ := h
    obtain ⟨l, d, _, _, fin⟩ := draw_cell r hk hb
    exact ⟨a, l, many, rfl, d, h1, h2, fun v H' l1 l2 d' o => k W _ μ _ H' (.refl _) (fin H' d' o) .i (h v l1 l2)⟩
  . exact h.elim⟩
def dspStart : DSp := fun ds μ Q => match ds with
  | [.scr _] => ∀ k, μ k = none -> Q (.cell k) (mset μ k .draw)
  | _ => False
end L2

namespace L2
open PySem PySem.Spec PyProof.Rows
section
variable {K : PySem.W.Frag} {fl : Wd} {W W' : Wd} {μ μ' : Mu} {H H' : Hp}
theorem Rel.same (r : Rel K fl W μ H) (s : Same H H') : Rel K fl W μ H' := ⟨fun b o e => s _ _ (r.sub _ _ e), r.fin, fun k c e => by
  obtain ⟨a, e1, e2, q⟩ := r.cel k c e
  obtain ⟨u, eu⟩ := q.some
  exact ⟨a, e1, e2, by rw [s _ _ eu, <- eu]; exact q⟩, r.inj, r.up⟩
theorem Rel.newAt {p : Addr} (r : Rel K fl W μ H) (hp : H p = none) : W.F p = none /\ ∀ k c, μ k = some c -> W.b k ≠ some p := by
  constructor
  . cases e : W.F p with
    | none => rfl
    | some u => rw [r.sub _ _ e] at hp; cases hp
  . intro k c e h
    obtain ⟨a, e1, _, q⟩ := r.cel k c e
    obtain ⟨u, eu⟩ := q.some
    rw [h] at e1; cases e1
    rw [hp] at eu; cases eu
theorem Rel.adoptF {p : Addr} {o : HO} (r : Rel K fl W μ H) (hp : H p = some o) (hF : W.F p = none) (hc : ∀ k c, μ k = some c -> W.b k ≠ some p) : Rel K fl ⟨W.b, upd W.F p o⟩ μ H /\ W.le ⟨W.b, upd W.F p o⟩ := by
  have le : W.le ⟨W.b, upd W.F p o⟩ := ⟨fun _ _ h => h, same_upd hF⟩
  refine ⟨⟨fun b u e => ?_, r.fin, fun k c e => ?_, r.inj, r.up.trans le⟩, le⟩
  . have e' : (upd W.F p o) b = some u := e
    by_cases hb : b = p
    . subst hb; rw [upd_same] at e'; cases e'; exact hp
    . rw [upd_ne hb] at e'; exact r.sub _ _ e'
  . obtain ⟨a, e1, e2, q⟩ := r.cel k c e
    have ha : a ≠ p := fun z => hc k c e (z ▸ e1)
    exact ⟨a, e1, by show upd W.F p o a = none; rw [upd_ne ha]; exact e2, q.mono le⟩
theorem Rel.adoptC {p : Addr} {c : Ct} (r : Rel K fl W μ H) (hF : W.F p = none) (hc : ∀ k c, μ k = some c -> W.b k ≠ some p) (hq : Ctn K W c (H p)) : ∃ (k : Nat) (W' : Wd), μ k = none /\ W.le W' /\ Rel K fl W' (mset μ k c) H /\ W'.b k = some p := by
  obtain ⟨n, hn⟩ := r.fin
  have hk : μ n = none := by
    cases e : μ n with
    | none => rfl
    | some c => obtain ⟨a, e1, _⟩ := r.cel n c e; rw [hn n (Nat.le_refl _)] at e1; cases e1
  have le : W.le ⟨fun j => if j = n then some p else W.b j, W.F⟩ := ⟨fun k a e => by
    show (if k = n then some p else W.b k) = some a
    rw [if_neg (fun z => by rw [z, hn n (Nat.le_refl _)] at e; cases e)]; exact e, fun _ _ h => h⟩
  refine ⟨n, ⟨fun j => if j = n then some p else W.b j, W.F⟩, hk, le, ⟨r.sub, ⟨n + 1, fun k hk => ?_⟩, fun k c' e => ?_, fun k k' c1 c2 a e e' q q' => ?_, r.up.trans le⟩, if_pos rfl⟩
  . show (if k = n then some p else W.b k) = none
    rw [if_neg (by omega)]; exact hn k (by omega)
  . by_cases ek : k = n
    . subst ek
      rw [mset_same] at e; cases e
      exact ⟨p, if_pos rfl, hF, hq.mono le⟩
    . rw [mset_ne ek] at e
      obtain ⟨a, e1, e2, q⟩ := r.cel k c' e
      exact ⟨a, by show (if k = n then some p else W.b k) = some a; rw [if_neg ek]; exact e1, e2, q.mono le⟩
  . have q1 : (if k = n then some p else W.b k) = some a := q
    have q2 : (if k' = n then some p else W.b k') = some a := q'
    by_cases ek : k = n
    . by_cases ek' : k' = n
      . rw [ek, ek']
      . rw [if_pos ek] at q1; rw [if_neg ek'] at q2
        rw [mset_ne ek'] at e'
        cases q1
        exact absurd q2 (hc _ _ e')
    . by_cases ek' : k' = n
      . rw [if_neg ek] at q1; rw [if_pos ek'] at q2
        rw [mset_ne ek] at e
        cases q2
        exact absurd q1 (hc _ _ e)
      . rw [if_neg ek] at q1; rw [if_neg ek'] at q2
        rw [mset_ne ek] at e; rw [mset_ne ek'] at e'
        exact r.inj k k' _ _ a e e' q1 q2
end
instance {K : PySem.W.Frag} {fl : Wd} : SimSp K fl (spStartL K) dspStart := ⟨fun {W μ H ds vs Q Q'} E r z h k => by
  unfold dspStart at h
  split at h
  . rename_i ns
    obtain ⟨x, rfl, q⟩ := z.one
    unfold Rep at q
    obtain ⟨a, rfl, hs⟩ := q
    refine ⟨a, ns, rfl, hs.sm r.sub, fun p l H' hp hl d sm => ?_⟩
    obtain ⟨ns', i, b, c, e1, e2, hi, hb, hne⟩ := d
    have r1 := r.same sm
    obtain ⟨f1, g1⟩ := r.newAt hl
    obtain ⟨r2, le2⟩ := r1.adoptF e2 f1 g1
    obtain ⟨f2, g2⟩ := r.newAt hp
    have f2' : (upd W.F l (.lst (ns'.map V.int))) p = none := by rw [upd_ne hne]; exact f2
    obtain ⟨j, W3, hj, le3, r3, e3⟩ := r2.adoptC (c := .draw) (p := p) f2' g2 ⟨l, ns', i, b, c, e1, upd_same, hi, hb⟩
    exact k W3 _ _ _ _ (le2.trans le3) r3 (by unfold Rep; exact ⟨p, rfl, e3⟩) (h j hj)
  . exact h.elim⟩
def dspLaw : DSp := fun ds μ Q => ∃ ns, ds = [.scr ns] /\ ns.length <= 63 /\ ∀ μ', Q (.bl true) μ'
def spLaw (K : PySem.W.Frag) : Sp := fun vs H Q _ => ∃ (a : Addr) (ns : List Int), vs = [.ref a] /\ SqL K H a (ns.map V.int) /\ ns.length <= 63 /\ ∀ H', Q (.bl true) H'
theorem law_lift {K : PySem.W.Frag} (vs : List V) (H : Hp) (Q : VK) (E : XK) (h : spLaw K vs H Q E) : lift K dspLaw vs H Q E := by
  obtain ⟨a, ns, rfl, hs, hl, q⟩ := h
  refine ⟨⟨fun _ => none, fun _ => none⟩, ⟨fun _ => none, fun b => if b = a then H a else none⟩, fun _ => none, [.scr ns], fun d _ => d = .bl true, ⟨fun b o e => ?_, ⟨0, fun _ _ => rfl⟩, fun k c e => (by cases e), fun k k' c c' x e => (by cases e), ⟨fun _ _ e => (by cases e), fun _ _ e => (by cases e)⟩⟩, .cons ?_ .nil, ⟨ns, rfl, hl, fun _ => rfl⟩, fun W' d μ' x H' _ _ r e => ?_⟩
  . have e' : (if b = a then H a else none) = some o := e
    by_cases hb : b = a
    . rw [if_pos hb] at e'; rw [hb]; exact e'
    . rw [if_neg hb] at e'; cases e'
  . unfold Rep
    refine ⟨a, rfl, ?_⟩
    rcases hs with h | h
    . refine .inl ?_
      rcases h with h | ⟨o, h⟩
      . exact .inl (by show (if a = a then H a else none) = _; rw [if_pos rfl]; exact h)
      . exact .inr ⟨o, by show (if a = a then H a else none) = _; rw [if_pos rfl]; exact h⟩
    . exact .inr h
  . subst e
    rw [r.b']
    exact q H'
theorem qs_asgThaw {X : Cx} {s : Stmt} {t : TE} {g : TG} (h : WS X s (tAsg t g)) : WS X s (tAsg (tThaw t) g) := h
theorem op_notNG {X : Cx} : OpR X (compareOp .IsNot) rNotN := op_notN
theorem op_inG {X : Cx} (K : PySem.W.Frag) {k : Nat} {cm : Bool} (hr : RoomC cm k X.A) (h : X.K = K := by rfl) : OpR X (compareOp .In) (rIn K false) := op_inK K h
theorem qe_bm0K {X : Cx} {o : Expr} {to : TE} {apos cpos : Pos} (K : PySem.W.Frag) {name : Str} {T id : String} {r : V -> List V -> Hp -> VK -> Prop} (pa : PlainAttrs T) (slot : Slot T name id) (hty : typeOf (.builtin id) = pure (.type "method_descriptor")) (hm : MtR X id r) (ho : WE X o to) (h : X.K = K := by rfl)
    (hbase : attributeBase o name X.env (eval o X.env) = eval o X.env := by rfl) (hline : (apos.endLine == cpos.line) = true := by rfl) : WE X (.Call (.Attribute o name apos) [] [] cpos) (tBM0 K T r to) := h ▸ qe_bm0 pa slot hty hm ho hbase hline
end L2
namespace L2
open PySem PySem.Spec PyProof.Rows
def ends (Q : DK) : DEnds := { nx := fun _ μ' => ∃ μ'', MLe μ'' μ' /\ Q .non μ'', rt := fun d μ' => ∃ μ'', MLe μ'' μ' /\ Q d μ'' }
def bodySp (w : DS) (N : List Str) (n : Nat) : DSp := fun ds μ Q => ds.length = n /\ w (ends Q) (startD N ds) μ
section
variable {P : Program} {w : World} {K : PySem.W.Frag} {fl : Wd} {mg : Str -> Option Value} {base : Heap}
theorem Fun.okB {x qual : Str} {st : Stmt} {f : Addr} {fd : FuncData} {N ps : List Str} {k n : Nat} (dw : DS) (F : Fun K x qual st f fd) (S : FnScope N ps (defScope st)) (len : ps.length = n)
    (hbody : ∀ (cdv : Value) (A : Around) (outer : List Env) (s : Shared) (H : Hp) (E : XK), Room k (A.deeper (envOfC qual (defScope st) s.heap.objs.size f cdv)) ->
      ∃ t, WSs (cxOf CX0 P w K mg base N qual (defScope st) f cdv A outer s H E).nox (defBody st) t /\ ∀ fl, SimS K fl t dw) : FnOk P w K mg base CX0 (k + 1) f fd ps (lift K (bodySp dw N n)) := by
  refine F.okq S (fun vs H Q E h => ?_) (fun cdv A outer s H vs Q E hr h => ?_)
  . obtain ⟨_, W, μ, ds, Q0, _, r, h, _⟩ := h
    rw [r.length, h.1, len]
  . obtain ⟨fl, W, μ, ds, Q0, rel, r, h, k⟩ := h
    obtain ⟨t, ht, sm⟩ := hbody cdv A outer s H E hr
    refine ⟨t, ht, (sm W).run (rel.floor (.refl W)) (.start r) h.2 ⟨fun W' ρ μ σ H le rr ee hh => ?_, fun _ _ _ _ _ _ _ _ hh => hh.elim, fun _ _ _ _ _ _ _ _ hh => hh.elim, fun W' d μ x H le rr ee hh => ?_⟩⟩
    . obtain ⟨μ'', l, hh⟩ := hh
      exact k W' .non μ'' _ H le ((rr.floor (rel.up.trans le)).less l) .n hh
    . obtain ⟨μ'', l, hh⟩ := hh
      exact k W' d μ'' x H le ((rr.floor (rel.up.trans le)).less l) ee hh
end
theorem lift_imp {K : PySem.W.Frag} {dsp dsp' : DSp} (h : ∀ ds μ Q, dsp ds μ Q -> dsp' ds μ Q) {vs : List V} {H : Hp} {Q : VK} {E : XK} (q : lift K dsp vs H Q E) : lift K dsp' vs H Q E := by
  obtain ⟨fl, W, μ, ds, Q0, a, b, c, d⟩ := q
  exact ⟨fl, W, μ, ds, Q0, a, b, h _ _ _ c, d⟩
end L2

namespace L2
open PySem PySem.Spec PyProof.Rows
section
variable {Pm : Mu -> Prop} {g : DG} {wb : DS} {D' : DEnds} {ds : List D} {ρ : DEnv} {μ : Mu} {wc : DT} {we : DE} {ρb : DEnv} {Fin : List D -> Mu -> Prop} {ys : List D}
theorem dLoop_by (I : Nat -> DEnv -> Mu -> Prop) (h0 : I 0 ρ μ)
    (step : ∀ i d ρ μ, ds[i]? = some d -> I i ρ μ -> ∀ N : DEnv -> Mu -> Prop, (∀ ρ' μ', I (i + 1) ρ' μ' -> N ρ' μ') -> g d ρ μ fun ρ2 μ2 => wb { D' with nx := N, ct := N, bk := D'.nx } ρ2 μ2)
    (fin : ∀ ρ μ, I ds.length ρ μ -> D'.nx ρ μ) (hP : ∀ i ρ μ, I i ρ μ -> Pm μ := by exact fun _ _ _ _ => trivial) : dLoop g wb D' Pm ds ρ μ := by
  have key : ∀ (n i : Nat) ρ μ, i + n = ds.length -> I i ρ μ -> dLoop g wb D' Pm (ds.drop i) ρ μ := by
    intro n
    induction n with
    | zero =>
      intro i ρ μ hi hI
      rw [List.drop_eq_nil_of_le (by omega)]
      have : i = ds.length := by omega
      subst this
      exact ⟨hP _ _ _ hI, fin ρ μ hI⟩
    | succ n ih =>
      intro i ρ μ hi hI
      rw [List.drop_eq_getElem_cons (by omega)]
      exact ⟨hP _ _ _ hI, step i _ ρ μ (List.getElem?_eq_getElem (by omega)) hI _ fun ρ' μ' h => ih (i + 1) ρ' μ' (by omega) h⟩
  exact key ds.length 0 ρ μ (by omega) h0
theorem dCLoop_by (I : Nat -> List D -> Mu -> Prop) (h0 : I 0 ys μ)
    (step : ∀ i d ys μ, ds[i]? = some d -> I i ys μ -> ys.length < sizeLine /\ ∀ N : List D -> Mu -> Prop, (∀ ys' μ', I (i + 1) ys' μ' -> N ys' μ') -> g d ρb μ fun ρ2 μ2 => wc ρ2 μ2 fun b μ3 => if b = true then we ρ2 μ3 fun v μ4 => N (ys ++ [v]) μ4 else N ys μ3)
    (fin : ∀ ys μ, I ds.length ys μ -> Fin ys μ) (hP : ∀ i ys μ, I i ys μ -> Pm μ := by exact fun _ _ _ _ => trivial) : dCLoop g wc we ρb Pm Fin ds ys μ := by
  have key : ∀ (n i : Nat) ys μ, i + n = ds.length -> I i ys μ -> dCLoop g wc we ρb Pm Fin (ds.drop i) ys μ := by
    intro n
    induction n with
    | zero =>
      intro i ys μ hi hI
      rw [List.drop_eq_nil_of_le (by omega)]
      have : i = ds.length := by omega
      subst this
      exact ⟨hP _ _ _ hI, fin ys μ hI⟩
    | succ n ih =>
      intro i ys μ hi hI
      rw [List.drop_eq_getElem_cons (by omega)]
      obtain ⟨hz, st⟩ := step i _ ys μ (List.getElem?_eq_getElem (by omega)) hI
      exact ⟨hP _ _ _ hI, hz, st (fun ys' μ' => dCLoop g wc we ρb Pm Fin (ds.drop (i + 1)) ys' μ') fun ys' μ' h => ih (i + 1) ys' μ' (by omega) h⟩
  exact key ds.length 0 ys μ (by omega) h0
theorem dCLoop_filter (p : D -> Bool) (f : D -> D) (hl : ds.length <= sizeLine) (step : ∀ d ∈ ds, ∀ (Y : DK) (Z : Mu -> Prop), (p d = true -> Y (f d) μ) -> (p d = false -> Z μ) -> g d ρb μ fun ρ2 μ2 => wc ρ2 μ2 fun b μ3 => if b = true then we ρ2 μ3 Y else Z μ3)
    (fin : Fin ((ds.filter p).map f) μ) (hP : Pm μ := by exact trivial) : dCLoop g wc we ρb Pm Fin ds [] μ := by
  refine dCLoop_by (fun i ys μ' => μ' = μ /\ ys = ((ds.take i).filter p).map f) ⟨rfl, by simp⟩ (fun i d ys μ' hd hI => ?_) (fun ys μ' hI => ?_) (fun i ys μ' h => h.1 ▸ hP)
  . obtain ⟨rfl, rfl⟩ := hI
    have hi := (List.getElem?_eq_some_iff.mp hd).1
    refine ⟨?_, fun N hN => ?_⟩
    . have := List.length_filter_le p (ds.take i)
      rw [List.length_map]
      rw [List.length_take] at this
      omega
    . refine step d (List.mem_of_getElem? hd) (fun v μ4 => N (((ds.take i).filter p).map f ++ [v]) μ4) (fun μ3 => N (((ds.take i).filter p).map f) μ3) (fun hp => hN _ _ ⟨rfl, ?_⟩) (fun hp => hN _ _ ⟨rfl, ?_⟩)
      . rw [List.take_add_one, hd]; simp [hp]
      . rw [List.take_add_one, hd]; simp [hp]
  . obtain ⟨rfl, rfl⟩ := hI
    rw [List.take_length]; exact fin
end
theorem rangeL_get? {lo : Int} {n i : Nat} {d : D} (h : ((rangeL lo n).map D.int)[i]? = some d) : i < n /\ d = .int (lo + i) := by
  rw [List.getElem?_map] at h
  by_cases hi : i < n
  . rw [rangeL_get hi] at h; cases h; exact ⟨hi, rfl⟩
  . rw [List.getElem?_eq_none (by rw [rangeL_length]; omega)] at h; cases h
theorem rangeD_length (lo : Int) (n : Nat) : ((rangeL lo n).map D.int).length = n := by rw [List.length_map, rangeL_length]
theorem dEq_int {i j : Int} {μ : Mu} {Q : DK} : dEq (.int i) (.int j) μ Q = Q (.bl (decide (i = j))) μ := by simp [dEq, dEqN]
theorem dNe_int {i j : Int} {μ : Mu} {Q : DK} : dNe (.int i) (.int j) μ Q = Q (.bl (!decide (i = j))) μ := by simp [dNe, dEqN]
theorem dNe_str {i j : Str} {μ : Mu} {Q : DK} : dNe (.str i) (.str j) μ Q = Q (.bl (!decide (i = j))) μ := by simp [dNe, dEqN]
theorem lookL_lst {μ : Mu} {ds : List D} : lookL μ (.lst ds) = some ds := rfl
theorem lookL_cell {μ : Mu} {k : Nat} {ds : List D} (h : μ k = some (.lst ds)) : lookL μ (.cell k) = some ds := by simp [lookL, h]
theorem lookQ_cell {μ : Mu} {k : Nat} {ds : List D} (h : μ k = some (.lst ds)) : lookQ μ (.cell k) = some ds := by simp [lookQ, lookL, h]
end L2
namespace L2
open PySem PySem.Spec PyProof.Rows
def Pl : Nat -> D -> Prop
  | _, .non => True
  | _, .bl _ => True
  | _, .int _ => True
  | _, .str x => PyData.strOk x = true
  | n + 1, .tup ds => ∀ d ∈ ds, Pl n d
  | n + 1, .lst ds => ∀ d ∈ ds, Pl n d
  | _, _ => False
theorem Pl.pys {n : Nat} (ih : ∀ d, Pl n d -> ∃ p, toPy d = some p /\ p.canLay0 = true /\ p.depth <= n) : ∀ ds : List D, (∀ d ∈ ds, Pl n d) -> ∃ ps, toPys ds = some ps /\ PyData.canLayAll0 ps = true /\ PyData.depthAll ps <= n
  | [], _ => ⟨[], by unfold toPys; rfl, by unfold PyData.canLayAll0; rfl, by unfold PyData.depthAll; omega⟩
  | d :: ds, h => by
    obtain ⟨p, e, c, b⟩ := ih d (h d List.mem_cons_self)
    obtain ⟨ps, e', c', b'⟩ := Pl.pys ih ds fun x hx => h x (List.mem_cons_of_mem _ hx)
    refine ⟨p :: ps, by unfold toPys; rw [e, e'], by unfold PyData.canLayAll0; rw [c, c']; rfl, ?_⟩
    unfold PyData.depthAll
    omega
theorem Pl.py : ∀ (n : Nat) (d : D), Pl n d -> ∃ p, toPy d = some p /\ p.canLay0 = true /\ p.depth <= n := by
  intro n
  induction n with
  | zero =>
    intro d h
    cases d <;> first | exact h.elim | skip
    . exact ⟨_, by unfold toPy; rfl, by simp [PyData.canLay0], by simp [PyData.depth]⟩
    . exact ⟨_, by unfold toPy; rfl, by simp [PyData.canLay0], by simp [PyData.depth]⟩
    . exact ⟨_, by unfold toPy; rfl, by simp [PyData.canLay0], by simp [PyData.depth]⟩
    . exact ⟨_, by unfold toPy; rfl, by rw [PyData.canLay0]; exact h, by simp [PyData.depth]⟩
  | succ n ih =>
    intro d h
    cases d <;> first | exact h.elim | skip
    . exact ⟨_, by unfold toPy; rfl, by simp [PyData.canLay0], by simp [PyData.depth]⟩
    . exact ⟨_, by unfold toPy; rfl, by simp [PyData.canLay0], by simp [PyData.depth]⟩
    . exact ⟨_, by unfold toPy; rfl, by simp [PyData.canLay0], by simp [PyData.depth]⟩
    . exact ⟨_, by unfold toPy; rfl, by rw [PyData.canLay0]; exact h, by simp [PyData.depth]⟩
    . rename_i ds
      obtain ⟨ps, e, c, b⟩ := Pl.pys ih ds h
      exact ⟨.tuple ps, by unfold toPy; rw [e]; rfl, by rw [PyData.canLay0]; exact c, by rw [PyData.depth]; omega⟩
    . rename_i ds
      obtain ⟨ps, e, c, b⟩ := Pl.pys ih ds h
      exact ⟨.list ps, by unfold toPy; rw [e]; rfl, by rw [PyData.canLay0]; exact c, by rw [PyData.depth]; omega⟩
theorem toPyM_of {μ : Mu} {d : D} {p : PyData} (h : toPy d = some p) : toPyM μ d = some p := by
  cases d <;> first | exact h | (unfold toPy at h; cases h)
end L2
namespace L2
open PySem PySem.Spec PyProof.Rows
section
variable {D' : DEnds} {ρ : DEnv} {μ : Mu}
end
theorem cutD_hi {α : Type} (xs : List α) (n : Nat) : cutD xs none (some (n : Int)) = xs.take n := by
  unfold cutD
  rw [HT.sIx_none, HT.sIx_nat, List.drop_zero, Nat.sub_zero]
  rcases Nat.le_total n xs.length with h | h
  . rw [Nat.min_eq_left h]
  . rw [Nat.min_eq_right h, List.take_length, List.take_of_length_le h]
theorem cutD_lo {α : Type} (xs : List α) (n : Nat) : cutD xs (some (n : Int)) none = xs.drop n := by
  unfold cutD
  rw [HT.sIx_none, HT.sIx_nat]
  rcases Nat.le_total n xs.length with h | h
  . rw [Nat.min_eq_left h, List.take_of_length_le (by rw [List.length_drop]; omega)]
  . rw [Nat.min_eq_right h, Nat.sub_self, List.take_zero, List.drop_eq_nil_of_le h]
end L2

namespace L2
open PySem PySem.Spec PyProof.Rows
section
variable {X : Cx} {pins : List (Addr × Obj)} {σ : St} {H : Hp} {s : Shared} {h' : Heap}
theorem Inv.turnedL {t' : Nat} (ch : List Addr) (I : Inv X pins σ H s) (k : ∀ b o, b ∉ ch -> s.heap.get? b = some o -> h'.get? b = some o) (hf : ∀ b ∈ ch, FpOk X pins H b) : Inv X pins σ H { s with heap := h', toks := t' } := by
  have nit : ∀ b u, H b = some u -> b ∉ ch := fun b u e z => by rw [(hf b z).1] at e; cases e
  have hL : X.env.locals ∉ ch := fun z => (hf _ z).2.1 rfl
  refine I.step (g' := s.gens) (d' := s.drawn) (ch := ch) (fun b hb => ?_) (fun b o _ _ hc e _ => k b o hc e) (fun b o _ _ hc e _ => ⟨o.slots, k b o hc e⟩) (fun _ _ _ _ n => n)
    (fun b o hc e => ⟨o, k b o hc e⟩) (fun _ _ e => e) (fun _ _ _ e => e) (fun b ps e => ⟨#[], by rw [e]; simp⟩) (fun m hm => ?_) (fun b u e => ?_) I.bare
  . obtain ⟨f0, f1, f2, f3, f4, f5⟩ := hf b hb
    exact ⟨f3, f1, f4, f5⟩
  . obtain ⟨o, es, ep, ho, r⟩ := hm
    exact ⟨o, es, ep, k _ o hL ho, r⟩
  . refine (I.hok b u e).stay (fun c v hc q => k c v ?_ q) (fun _ q => q) fun _ _ q => q
    rcases hc with z | z
    . rw [z]; exact nit b u e
    . exact nit c _ z
end
theorem push_back {h : Heap} {o u : Obj} {b : Addr} (hb : b ≠ h.objs.size) (e : (h.push o).get? b = some u) : h.get? b = some u := by
  unfold Heap.get? Heap.push at *
  rw [Array.getElem?_push] at e
  rw [if_neg hb] at e
  exact e
theorem sq_eq {X : Cx} {pins : List (Addr × Obj)} {σ : St} {H : Hp} {s : Shared} {l : Addr} {xs ys : List V} (I : Inv X pins σ H s) (q : SqL X.K H l xs) (q' : SqL X.K H l ys) : xs = ys := by
  obtain ⟨its1, r1, p1, _⟩ := I.list q
  obtain ⟨its2, r2, p2, _⟩ := I.list q'
  obtain ⟨o1, n1, e1, c1, d1, s1⟩ := p1
  obtain ⟨o2, n2, e2, c2, d2, s2⟩ := p2
  rw [e1] at e2; cases e2
  rw [s1] at s2
  have : its1 = its2 := by
    have := (Data.seq.inj s2).1
    simpa using this
  subst this
  exact r1.inj r2
def LsAt (K : PySem.W.Frag) (fl : Wd) (W : Wd) (Pm : Mu -> Prop) (p : Addr) (ds : List D) : Prop := ∀ W1 μ H, W.le W1 -> Rel K fl W1 μ H -> Pm μ -> ∃ xs, H p = some (.lst xs) /\ Reps K W1 ds xs
def lsM (μ : Mu) (d : D) (Q : List D -> (Mu -> Prop) -> Prop) : Prop := match d with
  | .cell k => match μ k with
    | some (.lst ds) => Q ds fun μ' => μ' k = some (.lst ds)
    | _ => False
  | .lst ds => Q ds fun _ => True
  | _ => False
theorem lsM_run {K : PySem.W.Frag} {fl : Wd} {W : Wd} {μ : Mu} {H : Hp} {d : D} {x : V} {Q : List D -> (Mu -> Prop) -> Prop} (r : Rel K fl W μ H) (q : Rep K W d x) (h : lsM μ d Q) : ∃ p ds Pm, x = .ref p /\ LsAt K fl W Pm p ds /\ Pm μ /\ Q ds Pm := by
  unfold lsM at h
  split at h
  . rename_i c
    obtain ⟨p, rfl, hb⟩ := q.cell'
    split at h
    . rename_i ds hk
      exact ⟨p, ds, _, rfl, fun W1 μ1 H1 le1 r1 pm => cell_list r1 (le1.b _ _ hb) pm, hk, h⟩
    . exact h.elim
  . obtain ⟨p, xs, rfl, s1, z1⟩ := q.lst'
    exact ⟨p, _, _, rfl, fun W1 μ1 H1 le1 r1 _ => ⟨xs, r1.sub _ _ (le1.F _ _ s1), z1.mono le1⟩, trivial, h⟩
  . exact h.elim
def pairD (p : D × D) : D := .tup [p.1, p.2]
def diZip (w : DA) : DI := fun ρ μ Q => w ρ μ fun es μ1 => match es with
  | [d, e] => lsM μ1 d fun ds P1 => lsM μ1 e fun es P2 => Q ((ds.zip es).map pairD) (fun μ' => P1 μ' /\ P2 μ') μ1
  | _ => False
end L2

namespace L2
open PySem PySem.Spec PyProof.Rows
section
variable {μ : Mu} {Q : DK} {α : Type}
theorem dIx_tup {ds : List D} {i : Int} : dIx (.tup ds) (.int i) μ Q = match atI ds i with
    | some v => Q v μ
    | none => False := rfl
theorem dIx_lst {ds : List D} {i : Int} : dIx (.lst ds) (.int i) μ Q = match atI ds i with
    | some v => Q v μ
    | none => False := rfl
theorem atI_0 {a : α} {r : List α} : atI (a :: r) 0 = some a := atI_nat (j := 0) rfl
theorem atI_1 {a b : α} {r : List α} : atI (a :: b :: r) 1 = some b := atI_nat (j := 1) rfl
theorem atI_2 {a b c : α} {r : List α} : atI (a :: b :: c :: r) 2 = some c := atI_nat (j := 2) rfl
theorem atI_3 {a b c d : α} {r : List α} : atI (a :: b :: c :: d :: r) 3 = some d := atI_nat (j := 3) rfl
theorem atI_4 {a b c d e : α} {r : List α} : atI (a :: b :: c :: d :: e :: r) 4 = some e := atI_nat (j := 4) rfl
theorem atI_m1 {a : α} : atI [a] (-1) = some a := rfl
theorem atI_m2 {a b : α} : atI [a, b] (-1) = some b := rfl
theorem atI_m3 {a b c : α} : atI [a, b, c] (-1) = some c := rfl
theorem atI_m4 {a b c d : α} : atI [a, b, c, d] (-1) = some d := rfl
theorem atI_m5 {a b c d e : α} : atI [a, b, c, d, e] (-1) = some e := rfl
theorem atI_map {β : Type} {f : α -> β} {xs : List α} {i : Int} : atI (xs.map f) i = (atI xs i).map f := by
  unfold atI
  rw [List.length_map]
  cases ixN xs.length i with
  | none => rfl
  | some j => simp [List.getElem?_map]
theorem atI_of {xs : List α} {i : Int} {j : Nat} {v : α} (hi : i = j) (h : xs[j]? = some v) : atI xs i = some v := by subst hi; exact atI_nat h
theorem atI_lt {xs : List α} {i : Int} (h0 : 0 <= i) (h1 : i < xs.length) : ∃ v, atI xs i = some v /\ xs[i.toNat]? = some v := by
  have hi : i.toNat < xs.length := by omega
  exact ⟨xs[i.toNat], atI_of (by omega) (List.getElem?_eq_getElem hi), List.getElem?_eq_getElem hi⟩
theorem atI_neg1 {xs : List α} : atI xs (-1) = xs.getLast? := by
  rcases List.eq_nil_or_concat xs with rfl | ⟨ys, v, rfl⟩
  . rfl
  . rw [List.concat_eq_append, atI_last]; simp
theorem ixN_lt {n : Nat} {i : Int} (h0 : 0 <= i) (h1 : i < n) : ixN n i = some i.toNat := by unfold ixN; rw [if_pos h0, if_pos h1]
end
theorem cut1 {s1 u : DS} {D' : DEnds} {ρ : DEnv} {μ : Mu} (R : DEnv -> Mu -> Prop) (h1 : ∀ N : DEnv -> Mu -> Prop, (∀ ρ' μ', R ρ' μ' -> N ρ' μ') -> s1 { D' with nx := N } ρ μ) (h2 : ∀ ρ' μ', R ρ' μ' -> u D' ρ' μ') : dSeq s1 u D' ρ μ := h1 _ h2
end L2

namespace L2
open PySem PySem.Spec PyProof.Rows
def blK (Q : Bool -> Mu -> Prop) : DK := fun d μ => match d with
  | .bl b => Q b μ
  | _ => False
def intK (Q : Int -> Mu -> Prop) : DK := fun d μ => match d with
  | .int b => Q b μ
  | _ => False
def chK (q' : DR2) (e : D) (wc : DE) (ρ : DEnv) (Q : DK) : DK := fun z μ3 => match z with
  | .bl k => if k = true then wc ρ μ3 fun f μ4 => q' e f μ4 Q else Q (.bl false) μ3
  | _ => False
def cellK (c : Option Ct) (Q : List D -> Prop) : Prop := match c with
  | some (.lst ds) => Q ds
  | _ => False
def optK {α : Type} (o : Option α) (Q : α -> Prop) : Prop := match o with
  | some a => Q a
  | none => False
def optM {α β : Type} (o : Option α) (f : α -> β) : Option β := match o with
  | some a => some (f a)
  | none => none
theorem optM_some {α β : Type} {a : α} {f : α -> β} : optM (some a) f = some (f a) := rfl
def frzK (c : Option Ct) (Q : DK) (μ : Mu) : Prop := match c with
  | some (.lst ds) => Q (.lst ds) μ
  | some (.dct ks vs) => Q (.dct ks vs) μ
  | some (.dtt ks vs) => Q (.dtt ks vs) μ
  | some (.ins C ns vs) => Q (.obj C ns vs) μ
  | _ => False
def tyC (T : String) (c : Option Ct) : Prop := match c with
  | some (.lst _) => "list" = T
  | some (.dct _ _) => "dict" = T
  | some (.dtt _ _) => "dict" = T
  | _ => False
section
variable {μ μ' : Mu} {Q : DK} {ρ : DEnv} {w wa wb wc : DE} {k : Nat} {d e : D} {ds es : List D} {i j : Int} {q q' : DR2} {α : Type} {D' : DEnds}
theorem blK_bl {b : Bool} {R : Bool -> Mu -> Prop} : blK R (.bl b) μ = R b μ := rfl
theorem intK_int {R : Int -> Mu -> Prop} : intK R (.int i) μ = R i μ := rfl
theorem chK_bl {b : Bool} : chK q' e wc ρ Q (.bl b) μ = if b = true then wc ρ μ fun f μ4 => q' e f μ4 Q else Q (.bl false) μ := rfl
theorem cellK_lst {R : List D -> Prop} : cellK (some (.lst ds)) R = R ds := rfl
theorem optK_some {a : α} {R : α -> Prop} : optK (some a) R = R a := rfl
theorem frzK_lst : frzK (some (.lst ds)) Q μ = Q (.lst ds) μ := rfl
theorem frzK_dct {ks : List Key} : frzK (some (.dct ks ds)) Q μ = Q (.dct ks ds) μ := rfl
theorem frzK_dtt {ks : List (List Key)} : frzK (some (.dtt ks ds)) Q μ = Q (.dtt ks ds) μ := rfl
theorem frzK_ins {C : Str} {ns : List Str} : frzK (some (.ins C ns ds)) Q μ = Q (.obj C ns ds) μ := rfl
theorem tyC_lst : tyC "list" (some (.lst ds)) = True := eq_true rfl
theorem e_test {R : Bool -> Mu -> Prop} : dTest w ρ μ R = w ρ μ (blK R) := rfl
theorem e_chain : dChain q q' wa wb wc ρ μ Q = wa ρ μ fun d μ1 => wb ρ μ1 fun e μ2 => q d e μ2 (chK q' e wc ρ Q) := rfl
theorem e_part {R : Option Int -> Mu -> Prop} : dPart w ρ μ R = w ρ μ (intK fun i => R (some i)) := rfl
theorem e_gcons {g : DG} {gs : DGs} {R : DEnv -> Mu -> Prop} : dgCons g gs (d :: ds) ρ μ R = g d ρ μ fun ρ' μ' => gs ds ρ' μ' R := rfl
theorem e_gtup {n : Nat} {gs : DGs} {R : DEnv -> Mu -> Prop} : dgTup n gs (.tup ds) ρ μ R = (ds.length = n /\ gs ds ρ μ R) := rfl
def parK (i j : Nat) (D0 : DEnds) (ρ : DEnv) : List D -> Mu -> Prop := fun ds μ1 => match ds with
  | [d, e] => D0.nx ((ρ.set i (some d)).set j (some e)) μ1
  | _ => False
theorem e_par {i j : Nat} {wA : DA} : dPar i j wA D' ρ μ = wA ρ μ (parK i j D' ρ) := rfl
theorem parK_two {i j : Nat} : parK i j D' ρ [d, e] μ = D'.nx ((ρ.set i (some d)).set j (some e)) μ := rfl
theorem e_frz : frzD μ (.cell k) Q = frzK (μ k) Q (mdel μ k) := by
  unfold frzD frzK
  cases h : μ k with
  | none => simp [h]
  | some c => cases c <;> simp [h]
theorem e_i0 {g : Int -> Int -> D} : dI0 g (.int i) (.int j) μ Q = Q (g i j) μ := rfl
theorem e_i {C : Int -> Int -> Prop} {g : Int -> Int -> D} : dI C g (.int i) (.int j) μ Q = (C i j /\ Q (g i j) μ) := rfl
theorem e_neg : dNeg (.int i) μ Q = Q (.int (-i)) μ := rfl
theorem e_add : dAdd (.int i) (.int j) μ Q = Q (.int (i + j)) μ := rfl
theorem e_adds {a b : Str} : dAdd (.str a) (.str b) μ Q = (a.length + b.length <= sizeLine /\ Q (.str (a ++ b)) μ) := rfl
theorem e_addt : dAdd (.tup ds) (.tup es) μ Q = (ds ≠ [] /\ ds.length + es.length <= sizeLine /\ Q (.tup (ds ++ es)) μ) := rfl
theorem e_addl : dAdd (.lst ds) (.lst es) μ Q = (ds.length + es.length <= sizeLine /\ Q (.lst (ds ++ es)) μ) := by
  show (∃ a b, lookL μ (.lst ds) = some a /\ lookL μ (.lst es) = some b /\ a.length + b.length <= sizeLine /\ Q (.lst (a ++ b)) μ) = _
  simp only [lookL_lst, Option.some.injEq]
  refine propext ⟨fun ⟨a, b, e1, e2, h⟩ => by subst e1 e2; exact h, fun h => ⟨_, _, rfl, rfl, h⟩⟩
theorem e_mul : dMul (.int i) (.int j) μ Q = (CMul i j /\ Q (.int (i * j)) μ) := rfl
theorem e_iadd : dIAdd (.int i) (.int j) μ Q = Q (.int (i + j)) μ := rfl
theorem e_ixt : dIx (.tup ds) (.int i) μ Q = optK (atI ds i) fun v => Q v μ := by
  rw [dIx_tup]; cases atI ds i <;> rfl
theorem e_ixl : dIx (.lst ds) (.int i) μ Q = optK (atI ds i) fun v => Q v μ := by
  rw [dIx_lst]; cases atI ds i <;> rfl
theorem e_ixc : dIx (.cell k) (.int i) μ Q = cellK (μ k) fun ds => optK (atI ds i) fun v => Q v μ := by
  show (match lookQ μ (.cell k) with | some ds => (match L2.atI ds i with | some v => Q v μ | none => False) | none => False) = _
  unfold cellK lookQ lookL optK
  cases h : μ k with
  | none => simp [h]
  | some c =>
    cases c <;> simp [h]
    rename_i ds
    cases atI ds i <;> simp
theorem e_ixs {z : Str} : dIx (.str z) (.int i) μ Q = (z.length <= sizeLine /\ optK (L2.atI z.cps.toList i) fun c => Q (.str ⟨#[c]⟩) μ) := by
  show (z.length <= sizeLine /\ (match L2.atI z.cps.toList i with | some c => Q (.str ⟨#[c]⟩) μ | none => False)) = _
  cases L2.atI z.cps.toList i <;> rfl
theorem e_slt {lo hi : Option Int} : dSlG (.tup ds) lo hi μ Q = (¬ (HT.sIx ds.length 0 lo = 0 /\ HT.sIx ds.length ds.length hi = ds.length) /\ Q (.tup (cutD ds lo hi)) μ) := rfl
theorem e_sll {lo hi : Option Int} : dSlG (.lst ds) lo hi μ Q = Q (.lst (cutD ds lo hi)) μ := rfl
theorem e_lens {z : Str} : dLen [.str z] μ Q = (z.length <= sizeLine /\ Q (.int z.length) μ) := rfl
theorem e_lenl : dLen [.lst ds] μ Q = Q (.int ds.length) μ := rfl
theorem e_lent : dLen [.tup ds] μ Q = Q (.int ds.length) μ := rfl
theorem e_lenc : dLen [.cell k] μ Q = cellK (μ k) fun ds => Q (.int ds.length) μ := by
  show (match lookQ μ (.cell k) with | some es => Q (.int es.length) μ | none => False) = _
  unfold cellK lookQ lookL
  cases h : μ k with
  | none => simp [h]
  | some c => cases c <;> simp [h]
theorem e_listl : dList [.lst ds] μ Q = Q (.lst ds) μ := rfl
theorem e_listt : dList [.tup ds] μ Q = Q (.lst ds) μ := rfl
theorem e_listc : dList [.cell k] μ Q = cellK (μ k) fun ds => Q (.lst ds) μ := by
  show (match lookQ μ (.cell k) with | some es => Q (.lst es) μ | none => False) = _
  unfold cellK lookQ lookL
  cases h : μ k with
  | none => simp [h]
  | some c => cases c <;> simp [h]
theorem e_listCl : dListC [.lst ds] μ Q = ∀ k, μ k = none -> Q (.cell k) (mset μ k (.lst ds)) := rfl
theorem e_listCt : dListC [.tup ds] μ Q = ∀ k, μ k = none -> Q (.cell k) (mset μ k (.lst ds)) := rfl
theorem e_tuplel : dTuple [.lst ds] μ Q = Q (.tup ds) μ := rfl
theorem e_tuplet : dTuple [.tup ds] μ Q = Q (.tup ds) μ := rfl
theorem e_abs : dAbs [.int i] μ Q = Q (.int (if i < 0 then -i else i)) μ := rfl
theorem e_max2 : dMax [.int i, .int j] μ Q = Q (.int (if j > i then j else i)) μ := rfl
theorem e_min2 : dMin [.int i, .int j] μ Q = Q (.int (if j < i then j else i)) μ := rfl
theorem e_maxl : dMax [.lst ds] μ Q = optK (intsOf ds) fun ns => ns ≠ [] /\ ∀ M ∈ ns, (∀ a ∈ ns, a <= M) -> Q (.int M) μ := by
  unfold dMax optK
  simp only [lookL_lst, Option.bind_some]
  cases intsOf ds <;> rfl
theorem e_minl : dMin [.lst ds] μ Q = optK (intsOf ds) fun ns => ns ≠ [] /\ ∀ M ∈ ns, (∀ a ∈ ns, M <= a) -> Q (.int M) μ := by
  unfold dMin optK
  simp only [lookL_lst, Option.bind_some]
  cases intsOf ds <;> rfl
theorem e_suml : dSum [.lst ds] μ Q = optK (intsOf ds) fun ns => Q (.int ns.sum) μ := by
  unfold dSum optK
  simp only [lookL_lst, Option.bind_some]
  cases intsOf ds <;> rfl
theorem e_alll : dAll [.lst ds] μ Q = optK (blsOf ds) fun ns => Q (.bl (ns.all id)) μ := by
  unfold dAll optK
  simp only [lookL_lst, Option.bind_some]
  cases blsOf ds <;> rfl
theorem e_anyl : dAny [.lst ds] μ Q = optK (blsOf ds) fun ns => Q (.bl (ns.any id)) μ := by
  unfold dAny optK
  simp only [lookL_lst, Option.bind_some]
  cases blsOf ds <;> rfl
theorem intsOf_nil : intsOf [] = some [] := rfl
theorem intsOf_cons : intsOf (.int i :: ds) = optM (intsOf ds) (fun l => i :: l) := by
  unfold optM
  simp only [intsOf]
  cases intsOf ds <;> rfl
theorem blsOf_nil : blsOf [] = some [] := rfl
theorem blsOf_cons {b : Bool} : blsOf (.bl b :: ds) = optM (blsOf ds) (fun l => b :: l) := by
  unfold optM
  simp only [blsOf]
  cases blsOf ds <;> rfl
theorem e_seql {R : List D -> (Mu -> Prop) -> Prop} : seqM μ (.lst ds) R = R ds fun _ => True := rfl
theorem e_seqt {R : List D -> (Mu -> Prop) -> Prop} : seqM μ (.tup ds) R = R ds fun _ => True := rfl
theorem e_seqc {R : List D -> (Mu -> Prop) -> Prop} : seqM μ (.cell k) R = cellK (μ k) fun ds => R ds fun μ' => μ' k = some (.lst ds) := by
  first
    | (unfold seqM cellK
       cases h : μ k with
       | none => simp [h]
       | some c => cases c <;> simp [h])
    | (unfold lsM cellK
       cases h : μ k with
       | none => simp [h]
       | some c => cases c <;> simp [h])
theorem e_lsl {R : List D -> (Mu -> Prop) -> Prop} : lsM μ (.lst ds) R = R ds fun _ => True := rfl
theorem e_lsc {R : List D -> (Mu -> Prop) -> Prop} : lsM μ (.cell k) R = cellK (μ k) fun ds => R ds fun μ' => μ' k = some (.lst ds) := by
  first
    | (unfold seqM cellK
       cases h : μ k with
       | none => simp [h]
       | some c => cases c <;> simp [h])
    | (unfold lsM cellK
       cases h : μ k with
       | none => simp [h]
       | some c => cases c <;> simp [h])
def rng1K (R : List D -> (Mu -> Prop) -> Mu -> Prop) : List D -> Mu -> Prop := fun ds μ1 => match ds with
  | [.int j] => -(2 ^ 62) <= j /\ j < 2 ^ 62 /\ R ((rangeL 0 j.toNat).map D.int) (fun _ => True) μ1
  | _ => False
def rng2K (R : List D -> (Mu -> Prop) -> Mu -> Prop) : List D -> Mu -> Prop := fun ds μ1 => match ds with
  | [.int i, .int j] => (-(2 ^ 62) <= i /\ i < 2 ^ 62 /\ -(2 ^ 62) <= j /\ j < 2 ^ 62) /\ R ((rangeL i (j - i).toNat).map D.int) (fun _ => True) μ1
  | _ => False
theorem e_rng1 {wA : DA} {R : List D -> (Mu -> Prop) -> Mu -> Prop} : diRng1 wA ρ μ R = wA ρ μ (rng1K R) := rfl
theorem rng1K_e {R : List D -> (Mu -> Prop) -> Mu -> Prop} : rng1K R [.int j] μ = (-(2 ^ 62) <= j /\ j < 2 ^ 62 /\ R ((rangeL 0 j.toNat).map D.int) (fun _ => True) μ) := rfl
theorem e_rng2 {wA : DA} {R : List D -> (Mu -> Prop) -> Mu -> Prop} : diRng2 wA ρ μ R = wA ρ μ (rng2K R) := rfl
theorem rng2K_e {R : List D -> (Mu -> Prop) -> Mu -> Prop} : rng2K R [.int i, .int j] μ = ((-(2 ^ 62) <= i /\ i < 2 ^ 62 /\ -(2 ^ 62) <= j /\ j < 2 ^ 62) /\ R ((rangeL i (j - i).toNat).map D.int) (fun _ => True) μ) := rfl
def zipK (R : List D -> (Mu -> Prop) -> Mu -> Prop) : List D -> Mu -> Prop := fun es μ1 => match es with
  | [d, e] => lsM μ1 d fun ds P1 => lsM μ1 e fun es P2 => R ((ds.zip es).map pairD) (fun μ' => P1 μ' /\ P2 μ') μ1
  | _ => False
theorem e_zip {wA : DA} {R : List D -> (Mu -> Prop) -> Mu -> Prop} : diZip wA ρ μ R = wA ρ μ (zipK R) := rfl
theorem zipK_e {R : List D -> (Mu -> Prop) -> Mu -> Prop} : zipK R [d, e] μ = lsM μ d fun ds P1 => lsM μ e fun es P2 => R ((ds.zip es).map pairD) (fun μ' => P1 μ' /\ P2 μ') μ := rfl
theorem e_draw {many : Int} : dspDraw [.cell k, .int many] μ Q = (μ k = some .draw /\ 0 < many /\ many < 2 ^ 250 /\ ∀ v, 0 <= v -> v < many -> Q (.int v) μ) := rfl
theorem e_start {ns : List Int} : dspStart [.scr ns] μ Q = ∀ k, μ k = none -> Q (.cell k) (mset μ k .draw) := rfl
theorem e_tyc {T : String} : tyM T μ (.cell k) = tyC T (μ k) := by
  unfold tyM tyD tyC
  cases h : μ k with
  | none => simp [h]
  | some c => cases c <;> simp [h]
theorem e_tyl : tyM "list" μ (.lst ds) = True := eq_true rfl
theorem e_tys {z : Str} : tyM "str" μ (.str z) = True := eq_true rfl
theorem e_cellL {R : Nat -> List D -> Prop} : cellL μ (.cell k) R = cellK (μ k) (R k) := by
  unfold cellL cellK
  cases h : μ k with
  | none => simp [h]
  | some c => cases c <;> simp [h]
theorem e_append : dAppend d [e] μ Q = cellL μ d fun k ds => ds.length < sizeLine /\ Q .non (mset μ k (.lst (ds ++ [e]))) := rfl
theorem e_pop0 : dPopM d [] μ Q = cellL μ d fun k ds => optK ds[ds.length - 1]? fun y => Q y (mset μ k (.lst ds.dropLast)) := by
  refine congrArg (cellL μ d) (funext fun k => funext fun ds => ?_)
  cases ds[ds.length - 1]? <;> rfl
theorem e_pop1 : dPopM d [.int i] μ Q = cellL μ d fun k ds => -(2 ^ 63) <= i /\ i < 2 ^ 63 /\ optK (ixN ds.length i) fun j => optK ds[j]? fun y => Q y (mset μ k (.lst (ds.eraseIdx j))) := by
  refine congrArg (cellL μ d) (funext fun k => funext fun ds => ?_)
  refine congrArg (And _) (congrArg (And _) ?_)
  unfold optK
  cases ixN ds.length i with
  | none => rfl
  | some j =>
    generalize ds.eraseIdx j = ee
    simp only
    cases ds[j]? <;> rfl
theorem e_setix {R : Mu -> Prop} : dSetIx d (.int i) e μ R = cellL μ d fun k ds => optK (ixN ds.length i) fun j => R (mset μ k (.lst (ds.set j e))) := by
  refine congrArg (cellL μ d) (funext fun k => funext fun ds => ?_)
  cases ixN ds.length i <;> rfl
theorem e_is : dIs d .non μ Q = Q (.bl (isNon d)) μ := rfl
theorem e_isnot : dIsNot d .non μ Q = Q (.bl (!isNon d)) μ := rfl
theorem isi_non_int : dIsI [.non, .ty "int"] μ Q = Q (.bl false) μ := by show ("int" ∈ tyNames /\ Q (.bl (isTy "NoneType" "int")) μ) = _; rw [show ("int" ∈ tyNames) = True from eq_true (by decide), true_and]; rfl
theorem isi_non_bool : dIsI [.non, .ty "bool"] μ Q = Q (.bl false) μ := by show ("bool" ∈ tyNames /\ Q (.bl (isTy "NoneType" "bool")) μ) = _; rw [show ("bool" ∈ tyNames) = True from eq_true (by decide), true_and]; rfl
theorem isi_bl_int {x : Bool} : dIsI [(.bl x), .ty "int"] μ Q = Q (.bl true) μ := by show ("int" ∈ tyNames /\ Q (.bl (isTy "bool" "int")) μ) = _; rw [show ("int" ∈ tyNames) = True from eq_true (by decide), true_and]; rfl
theorem isi_bl_bool {x : Bool} : dIsI [(.bl x), .ty "bool"] μ Q = Q (.bl true) μ := by show ("bool" ∈ tyNames /\ Q (.bl (isTy "bool" "bool")) μ) = _; rw [show ("bool" ∈ tyNames) = True from eq_true (by decide), true_and]; rfl
theorem isi_int_int {x : Int} : dIsI [(.int x), .ty "int"] μ Q = Q (.bl true) μ := by show ("int" ∈ tyNames /\ Q (.bl (isTy "int" "int")) μ) = _; rw [show ("int" ∈ tyNames) = True from eq_true (by decide), true_and]; rfl
theorem isi_int_bool {x : Int} : dIsI [(.int x), .ty "bool"] μ Q = Q (.bl false) μ := by show ("bool" ∈ tyNames /\ Q (.bl (isTy "int" "bool")) μ) = _; rw [show ("bool" ∈ tyNames) = True from eq_true (by decide), true_and]; rfl
end
end L2

namespace L2
open PySem PySem.Spec PyProof.Rows
def Ite (K : PySem.W.Frag) (l : Addr) : It :=
  ⟨fun i H => ∃ xs x, SqL K H l xs /\ xs[i]? = some x,
   fun i H v H' => ∃ p, H p = none /\ v = .ref p /\ ∀ xs, SqL K H l xs -> ∃ x, xs[i]? = some x /\ H' = upd H p (.tup [.int i, x]),
   fun i H => ∃ xs, SqL K H l xs /\ xs.length <= i⟩
def enumSt (e it l : Addr) (i : Nat) (h : Heap) : Prop := (∃ old, IsEnum h e it i old) /\ h.IsListIter it l i
theorem turn_enum {P : Program} {w : World} {K : PySem.W.Frag} {elts : List Expr} {k : Nat} {pos : Pos} (e it l : Addr) (d : e ≠ it) : Turn P w K (.Tuple elts k pos) (Ite K l) [e, it] e (enumSt e it l) where
  mem := by simp
  obj := fun i h st b hb => by
    obtain ⟨⟨old, hz⟩, ⟨o1, e1, c1, d1⟩⟩ := st
    simp only [List.mem_cons, List.not_mem_nil, or_false] at hb
    rcases hb with rfl | rfl
    . exact ⟨_, hz, fun v e => by cases e⟩
    . exact ⟨_, e1, fun v e => by rw [d1] at e; cases e⟩
  keep := fun i h h' st kk => by
    obtain ⟨⟨old, hz⟩, h1⟩ := st
    exact ⟨⟨old, kk e (by simp) _ hz⟩, h1.at fun o e => kk it (by simp) o e⟩
  item := by
    intro X hP hw hK hc i pins s σ H E I hf st hg
    subst hP hw hK
    obtain ⟨xs, x, q1, hx⟩ := hg
    obtain ⟨its1, r1, p1, _⟩ := I.list q1
    obtain ⟨u1, eu1, ru1⟩ := r1.get hx
    obtain ⟨⟨old, hz⟩, h1⟩ := st
    have hl1 := p1.isList
    refine wpAny_pyNext_enum_item hz h1 hl1 (x := u1) (by simpa using eu1) d fun h' a1 a2 a3 a4 hk => ?_
    refine ⟨_, rfl, wpAny_letOwnedTupleGo_enum a1 fun h'' b1 b2 => ?_⟩
    have lt : ∀ b ∈ [e, it], b < s.heap.objs.size := fun b hb => by
      simp only [List.mem_cons, List.not_mem_nil, or_false] at hb
      rcases hb with rfl | rfl
      . exact Heap.lt_size hz
      . obtain ⟨o1, e1, _⟩ := h1; exact Heap.lt_size e1
    have hfr : H s.heap.objs.size = none := I.hok.fresh (Nat.le_refl _)
    have I1 : Inv X pins σ (upd H s.heap.objs.size (.tup [.int i, x])) { s with heap := s.heap.push { cls := .type "tuple", data := .seq #[Value.int (i : Int) s.toks, u1] }, toks := s.toks + 1 } :=
      I.laid (t' := s.toks + 1) (fun b o e => Heap.get?_push_of_some _ e) (Nat.le_refl _) ⟨by show 2 <= sizeLine; decide, [Value.int (i : Int) s.toks, u1], .cons ⟨_, rfl⟩ (.cons ru1 .nil), ⟨_, Heap.get?_push_size _ rfl, rfl, _, rfl⟩⟩
    have hne : ∀ b ∈ [e, it], (upd H s.heap.objs.size (.tup [.int i, x])) b = none := fun b hb => by
      rw [upd_ne (Nat.ne_of_lt (lt b hb))]; exact (hf b hb).1
    have I2 := I1.turnedL (h' := h'') (t' := s.toks + 1) [e, it] (fun b o hb e => ?_) (fun b hb => ⟨hne b hb, (hf b hb).2⟩)
    . refine ⟨.ref s.heap.objs.size, _, I2, rfl, ⟨_, hfr, rfl, fun xs' q1' => ⟨x, by rw [sq_eq I q1' q1]; exact hx, rfl⟩⟩, ⟨⟨_, b1⟩, a2.extBut b2.extBut d.symm⟩, hne⟩
    . simp only [List.mem_cons, List.not_mem_nil, or_false, not_or] at hb
      refine b2.extBut _ _ hb.1 ?_
      by_cases hT : b = s.heap.objs.size
      . subst hT
        rw [Heap.get?_push_size _ rfl] at e
        cases e
        exact a3
      . have e' : s.heap.get? b = some o := push_back hT e
        exact hk b o hb.1 hb.2 e'
  done := by
    intro X hP hw hK hc i pins s σ H E I hf st hg
    subst hP hw hK
    obtain ⟨xs, q1, hend⟩ := hg
    obtain ⟨its1, r1, p1, _⟩ := I.list q1
    obtain ⟨⟨old, hz⟩, h1⟩ := st
    refine wpAny_pyNext_enum_end (I.ok.hd hc) hz h1 p1.isList ?_ fun h' hk => ⟨rfl, I.turnedL (h' := h') (t' := s.toks) [e, it] (fun b o hb e => ?_) hf⟩
    . rw [Array.getElem?_eq_none]; rw [List.size_toArray, <- r1.length]; exact hend
    . simp only [List.mem_cons, List.not_mem_nil, or_false, not_or] at hb
      exact hk b o hb.2 e
  self := fun _ _ _ _ _ st h => by obtain ⟨⟨old, hz⟩, _⟩ := st; exact wpAny_pyIter_enum hz h
def iEnum (K : PySem.W.Frag) (ta : TA) : TI := fun σ H R => ta σ H fun vs H2 => ∃ l xs, vs = [.ref l] /\ SqL K H2 l xs /\ R (Ite K l) H2
theorem qi_enumK {X : Cx} {a : Expr} {ta : TA} {p pos pos2 : Pos} {elts : List Expr} {k : Nat} (K : PySem.W.Frag) (hg : Gl X "enumerate") (hm : X.mg "enumerate" = none) (ha : WA X [a] ta) (h : X.K = K := by rfl)
    (hs : starEach [a] X.env = (false, eval a X.env) :: starEach [] X.env := by rfl) (hpl : (backTo pos (starEach [] X.env)).any (·.1) = false := by rfl) : WI X (.Tuple elts k pos2) (.Call (.Name "enumerate" p) [a] [] pos) (iEnum K ta) := ⟨by
  subst h
  intro pins s σ H R I h
  refine Call_ (ld_blt I hg hm boot_enumerate (PyProof.Rows.callWith_type1 (thn (ha.out pos pins s σ H _ I h) fun us s1 ⟨vs, H1, I1, r1, q1⟩ => ?_) hs hpl))
  obtain ⟨l, xs, rfl, q2, q⟩ := q1
  obtain ⟨u, rfl, e1⟩ := vals1 r1
  cases e1
  obtain ⟨its1, rv1, p1, _⟩ := I1.list q2
  refine call_enumerate_list p1.isList fun h' b1 b2 b3 b4 => ?_
  refine wpAny_pyIter_enum b1 ?_
  refine ⟨s1.heap.objs.size + 1, [s1.heap.objs.size + 1, s1.heap.objs.size], _, _, H1, rfl, I1.kept (t' := s1.toks) b4, turn_enum (s1.heap.objs.size + 1) s1.heap.objs.size l (Nat.ne_of_gt (Nat.lt_succ_self _)), ⟨⟨_, b1⟩, b2⟩, fun b hb => ?_, q⟩
  have hge : s1.heap.objs.size <= b := by
    simp only [List.mem_cons, List.not_mem_nil, or_false] at hb
    rcases hb with rfl | rfl
    . exact Nat.le_succ _
    . exact Nat.le_refl _
  exact I1.fpOk hge (I1.hok.fresh hge)⟩
def enumD (ds : List D) : List D := ((List.range ds.length).zip ds).map fun p => .tup [.int p.1, p.2]
theorem enumD_get {ds : List D} {i : Nat} {d : D} (h : (enumD ds)[i]? = some d) : ∃ e, ds[i]? = some e /\ d = .tup [.int i, e] := by
  unfold enumD at h
  rw [List.getElem?_map] at h
  cases hz : ((List.range ds.length).zip ds)[i]? with
  | none => rw [hz] at h; cases h
  | some pr =>
    rw [hz] at h; cases h
    obtain ⟨m1, m2⟩ := List.getElem?_zip_eq_some.mp hz
    have hi := (List.getElem?_eq_some_iff.mp m2).1
    rw [List.getElem?_range hi] at m1
    cases pr; cases m1
    exact ⟨_, m2, rfl⟩
theorem enumD_length (ds : List D) : (enumD ds).length = ds.length := by simp [enumD]
def enumK (R : List D -> (Mu -> Prop) -> Mu -> Prop) : List D -> Mu -> Prop := fun es μ1 => match es with
  | [d] => lsM μ1 d fun ds P1 => R (enumD ds) P1 μ1
  | _ => False
def diEnum (w : DA) : DI := fun ρ μ Q => w ρ μ (enumK Q)
theorem enumK_e {d : D} {μ : Mu} {R : List D -> (Mu -> Prop) -> Mu -> Prop} : enumK R [d] μ = lsM μ d fun ds P1 => R (enumD ds) P1 μ := rfl
instance {K : PySem.W.Frag} {fl : Wd} {ta : TA} {wa : DA} [a : SimA K fl ta wa] : SimI K fl (iEnum K ta) (diEnum wa) := ⟨fun {W ρ μ σ H Q Q'} r e h k => a.run r e h fun W1 ds μ1 xs H1 le1 r1 z1 h1 => by
  unfold enumK at h1
  split at h1
  . obtain ⟨x, rfl, q1⟩ := z1.one
    obtain ⟨p1, d1, P1, rfl, l1, pm1, h1⟩ := lsM_run r1 q1 h1
    obtain ⟨xs1, e1, _⟩ := l1 W1 μ1 H1 (.refl _) r1 pm1
    refine ⟨p1, xs1, rfl, SqL.of e1, k W1 _ _ _ μ1 H1 le1 r1 (fun W2 μ2 H2 le2 r2 pm i => ?_) h1⟩
    obtain ⟨a1, f1, g1⟩ := l1 W2 μ2 H2 le2 r2 pm
    constructor
    . intro d hd
      obtain ⟨e, m2, rfl⟩ := enumD_get hd
      obtain ⟨x1, ex1, qx1⟩ := g1.get m2
      refine ⟨⟨a1, x1, SqL.of f1, ex1⟩, fun v H' hy => ?_⟩
      obtain ⟨p, hp, rfl, hy⟩ := hy
      obtain ⟨y1, ey1, rfl⟩ := hy a1 (SqL.of f1)
      rw [ex1] at ey1
      cases ey1
      obtain ⟨r3, le3⟩ := r2.newF (o := .tup [.int i, x1]) hp
      exact ⟨_, le3, r3, .tup (SqT.of upd_same) (.cons .i (.cons (qx1.mono le3) .nil))⟩
    . intro hl
      rw [enumD_length] at hl
      exact ⟨a1, SqL.of f1, by rw [g1.length]; exact hl⟩
  . exact h1.elim⟩
section
variable {X : Cx} (K : PySem.W.Frag)
def rIsT : List V -> Hp -> VK -> Prop := fun xs H Q => ∃ a ys c b, xs = [.ref a, c] /\ SqT K H a ys /\ (∀ u, RelV c u -> PySem.W.kitOne K (.type "tuple") u = some b) /\ Q (.bl b) H
def rIsG : List V -> Hp -> VK -> Prop := fun xs H Q => rIsI K xs H Q \/ rIsT K xs H Q
theorem call_isiT (h : X.K = K := by rfl) : CallR X (.builtin "isinstance") (rIsT K) := by
  subst h
  intro pins s σ H xs us Q I r h
  obtain ⟨a, ys, c, b, rfl, hq, hk, q⟩ := h
  obtain ⟨u, w, rfl, ra, rc⟩ := vals2 r
  cases ra
  obtain ⟨its, rv, p, hz⟩ := I.tuple hq
  obtain ⟨o, h1, h2, _⟩ := p
  exact PySem.W.kia_one PySem.W.kitx_tuple I.kIn ⟨o, h1, h2⟩ (hk w rc) (fun z => nomatch z) fun tk => ⟨.bl b, H, I.tok _, rfl, q⟩
theorem call_isiG2 (h : X.K = K := by rfl) : CallR X (.builtin "isinstance") (rIsG K) := (call_isiG K h).or (call_isiT K h)
end
def dIsT : DRs := fun ds μ Q => match ds with
  | [.tup _, .ty T] => T ∈ tyNames /\ Q (.bl (isTy "tuple" T)) μ
  | ds => dIsI ds μ Q
theorem kit_tup {K : PySem.W.Frag} {T : String} (h' : T ∈ tyNames) : PySem.W.kitOne K (.type "tuple") (.type T) = some (isTy "tuple" T) := by
  simp only [tyNames, List.mem_cons, List.not_mem_nil, or_false] at h'
  rcases h' with rfl | rfl | rfl | rfl | rfl | rfl <;> rfl
instance {K : PySem.W.Frag} {fl : Wd} : SimRs K fl (rIsG K) dIsT := ⟨fun {W μ H ds xs Q Q'} r z h k => by
  unfold dIsT at h
  split at h
  . rename_i es T
    obtain ⟨x, y, rfl, q1, q2⟩ := z.two
    obtain ⟨a, ys, rfl, hs, _⟩ := q1.tup'
    unfold Rep at q2
    subst q2
    exact .inr ⟨a, ys, .ty T, isTy "tuple" T, rfl, hs.sm r.sub, fun u hu => by cases hu; exact kit_tup h.1, k _ _ _ _ _ (.refl _) r .b h.2⟩
  . exact .inl (SimRs.run (K := K) r z h k)⟩
inductive Src where
  | p (i : Nat) | k (i : Nat) | c (i : Nat)
def pick {α : Type} (d : α) (cs us ws : List α) : Src -> α
  | .p i => us.getD i d
  | .k i => ws.getD i d
  | .c i => cs.getD i d
def sel {α : Type} (n m : Nat) (pat : List Src) (d : α) (cs us ws : List α) : List α := bif (us.length == n && ws.length == m) then pat.map (pick d cs us ws) else []
theorem Vals.getD {vs : List V} {us : List Value} (h : Vals vs us) (i : Nat) : RelV (vs.getD i .non) (us.getD i .none) := by
  rw [List.getD_eq_getElem?_getD, List.getD_eq_getElem?_getD]
  cases e : vs[i]? with
  | none =>
    have : us[i]? = none := by
      rw [List.getElem?_eq_none_iff] at e ⊢
      rw [<- h.length]; exact e
    rw [this]; rfl
  | some v =>
    obtain ⟨u, hu, rv⟩ := h.get e
    rw [hu]; exact rv
theorem Vals.mapS {f : Src -> V} {g : Src -> Value} (h : ∀ x, RelV (f x) (g x)) : ∀ pat : List Src, Vals (pat.map f) (pat.map g)
  | [] => .nil
  | x :: r => .cons (h x) (Vals.mapS h r)
theorem sel_vals {n m : Nat} {pat : List Src} {csV vs zs : List V} {csU us ws : List Value} (hc : Vals csV csU) (h1 : Vals vs us) (h2 : Vals zs ws) : Vals (sel n m pat .non csV vs zs) (sel n m pat .none csU us ws) := by
  unfold sel
  rw [h1.length, h2.length]
  cases (us.length == n && ws.length == m) with
  | false => exact .nil
  | true =>
    refine Vals.mapS (fun x => ?_) pat
    cases x with
    | p i => exact h1.getD i
    | k i => exact h2.getD i
    | c i => exact hc.getD i
section
variable {K : PySem.W.Frag} {fl : Wd} {W : Wd}
theorem Reps.getD {ds : List D} {xs : List V} (h : Reps K W ds xs) (i : Nat) : Rep K W (ds.getD i .non) (xs.getD i .non) := by
  rw [List.getD_eq_getElem?_getD, List.getD_eq_getElem?_getD]
  cases e : ds[i]? with
  | none =>
    have : xs[i]? = none := by
      rw [List.getElem?_eq_none_iff] at e ⊢
      rw [h.length]; exact e
    rw [this]; exact .n
  | some v =>
    obtain ⟨u, hu, rv⟩ := h.get e
    rw [hu]; exact rv
theorem Reps.mapS {f : Src -> D} {g : Src -> V} (h : ∀ x, Rep K W (f x) (g x)) : ∀ pat : List Src, Reps K W (pat.map f) (pat.map g)
  | [] => .nil
  | x :: r => .cons (h x) (Reps.mapS h r)
theorem sel_reps {n m : Nat} {pat : List Src} {csV vs zs : List V} {csD ds es : List D} (hc : Reps K W csD csV) (h1 : Reps K W ds vs) (h2 : Reps K W es zs) : Reps K W (sel n m pat .non csD ds es) (sel n m pat .non csV vs zs) := by
  unfold sel
  rw [h1.length, h2.length]
  cases (ds.length == n && es.length == m) with
  | false => exact .nil
  | true =>
    refine Reps.mapS (fun x => ?_) pat
    cases x with
    | p i => exact h1.getD i
    | k i => exact h2.getD i
    | c i => exact hc.getD i
end
theorem kb_sel {K : PySem.W.Frag} {fd : FuncData} {ps ks : List Str} {n m : Nat} {pat : List Src} {csV : List V} {csU : List Value} (hc : Vals csV csU) (hp : ps.length ≠ 0)
    (h : ∀ (S : Setting) (us ws : List Value), us.length = n -> ws.length = m -> PySem.W.peek K S (bindArgs fd ⟨us, ks.zip ws⟩) = some (ps.zip (sel n m pat .none csU us ws))) : KBinds K fd ps ks (sel n m pat .none csU) (sel n m pat .non csV) where
  to := fun s us ws hK hl => by
    by_cases c : us.length = n /\ ws.length = m
    . exact PySem.W.kp_binds hK fun S => h S us ws c.1 c.2
    . have : (us.length == n && ws.length == m) = false := by
        rw [Bool.and_eq_false_iff]
        by_cases c1 : us.length = n
        . exact .inr (by rw [beq_eq_false_iff_ne]; exact fun z => c ⟨c1, z⟩)
        . exact .inl (by rw [beq_eq_false_iff_ne]; exact c1)
      unfold sel at hl
      rw [this] at hl
      exact absurd hl.symm hp
  rel := fun r rz => sel_vals hc r rz
class CRep (K : PySem.W.Frag) (ds : List D) (xs : List V) : Prop where
  run : ∀ W, Reps K W ds xs
instance {K : PySem.W.Frag} : CRep K [] [] := ⟨fun _ => .nil⟩
def dCallS (dsp : DSp) (n m : Nat) (pat : List Src) (cs : List D) (w wk : DA) : DE := fun ρ μ Q => w ρ μ fun ds μ1 => wk ρ μ1 fun es μ2 => dsp (sel n m pat .non cs ds es) μ2 Q
end L2

namespace L2
open PySem PySem.Spec PyProof.Rows
theorem vals_strs' : ∀ {us : List Value} {ns : List Str}, StrsAre us ns -> Vals (ns.map V.str) us
  | _, _, .nil => .nil
  | _, _, .cons n t h => .cons ⟨t, rfl⟩ (vals_strs' h)
theorem vals_ints' : ∀ {us : List Value} {ns : List Int}, IntsAre us ns -> Vals (ns.map V.int) us
  | _, _, .nil => .nil
  | _, _, .cons n t h => .cons ⟨t, rfl⟩ (vals_ints' h)
theorem strs_vals' : ∀ {ns : List Str} {us : List Value}, Vals (ns.map V.str) us -> StrsAre us ns
  | [], _, h => by cases h; exact .nil
  | y :: r, _, h => by
    cases h with
    | cons a b => obtain ⟨t, rfl⟩ := a; exact .cons y t (strs_vals' b)
section
variable {X : Cx} (K : PySem.W.Frag)
def rSortI : List V -> Hp -> VK -> Prop := fun xs H Q => ∃ p ns, xs = [.ref p] /\ SqL K H p (ns.map V.int) /\ ns.length < 64 /\ ∀ ns' l, List.Perm ns' ns -> List.Pairwise (· <= ·) ns' -> H l = none -> Q (.ref l) (upd H l (.lst (ns'.map V.int)))
def rSortS : List V -> Hp -> VK -> Prop := fun xs H Q => ∃ p ns, xs = [.ref p] /\ SqL K H p (ns.map V.str) /\ ns.length < 64 /\ ∀ ns' l, List.Perm ns' ns -> sortedS ns' = true -> H l = none -> Q (.ref l) (upd H l (.lst (ns'.map V.str)))
theorem call_sortI (h : X.K = K := by rfl) : CallR X (.builtin "sorted") (rSortI K) := by
  subst h
  intro pins s σ H xs us Q I r h
  obtain ⟨p, ns, rfl, hl, hz, q⟩ := h
  obtain ⟨u, rfl, rx⟩ := vals1 r
  cases rx
  obtain ⟨its, r', pl, hz'⟩ := I.list hl
  have hi := items_vals r'
  refine sorted_ints pl.isList hi (by rw [<- r'.length, List.length_map]; exact hz) fun out ns' h1 h2 h3 => ?_
  obtain ⟨e, he⟩ := sortedAll_at s.heap its out
  have hf : H (s.heap.objs.size + 1) = none := I.hok.fresh (Nat.le_succ _)
  refine ⟨.ref (s.heap.objs.size + 1), _, I.laid (a := s.heap.objs.size + 1) (o := .lst (ns'.map V.int)) (t' := s.toks) (fun b o e => sortedAll_old e) (Nat.le_succ _) ?_, rfl, q ns' _ h2 h3 hf⟩
  refine ⟨by rw [List.length_map, h2.length_eq]; exact Nat.le_trans (Nat.le_of_lt hz) (by decide), out.toList, e, vals_ints' h1, ?_⟩
  rw [he]
theorem call_sortS (h : X.K = K := by rfl) : CallR X (.builtin "sorted") (rSortS K) := by
  subst h
  intro pins s σ H xs us Q I r h
  obtain ⟨p, ns, rfl, hl, hz, q⟩ := h
  obtain ⟨u, rfl, rx⟩ := vals1 r
  cases rx
  obtain ⟨its, r', pl, hz'⟩ := I.list hl
  have hi := strs_vals' r'
  refine sorted_strs pl.isList hi (by rw [<- r'.length, List.length_map]; exact hz) fun out ns' h1 h2 h3 => ?_
  obtain ⟨e, he⟩ := sortedAll_at s.heap its out
  have hf : H (s.heap.objs.size + 1) = none := I.hok.fresh (Nat.le_succ _)
  refine ⟨.ref (s.heap.objs.size + 1), _, I.laid (a := s.heap.objs.size + 1) (o := .lst (ns'.map V.str)) (t' := s.toks) (fun b o e => sortedAll_old e) (Nat.le_succ _) ?_, rfl, q ns' _ h2 h3 hf⟩
  refine ⟨by rw [List.length_map, h2.length_eq]; exact Nat.le_trans (Nat.le_of_lt hz) (by decide), out.toList, e, vals_strs' h1, ?_⟩
  rw [he]
def rSortG : List V -> Hp -> VK -> Prop := fun xs H Q => rSortI K xs H Q \/ rSortS K xs H Q
theorem call_sortedG (h : X.K = K := by rfl) : CallR X (.builtin "sorted") (rSortG K) := (call_sortI K h).or (call_sortS K h)
end
def dSorted : DRs := fun ds μ Q => match ds with
  | [d] => (∃ ns, lookL μ d = some (ns.map D.int) /\ ns.length < 64 /\ ∀ ns', List.Perm ns' ns -> List.Pairwise (· <= ·) ns' -> Q (.lst (ns'.map D.int)) μ) \/
      (∃ ns, lookL μ d = some (ns.map D.str) /\ ns.length < 64 /\ ∀ ns', List.Perm ns' ns -> sortedS ns' = true -> Q (.lst (ns'.map D.str)) μ)
  | _ => False
instance {K : PySem.W.Frag} {fl : Wd} : SimRs K fl (rSortG K) dSorted := ⟨fun {W μ H ds xs Q Q'} r z h k => by
  unfold dSorted at h
  split at h
  . obtain ⟨x, rfl, q⟩ := z.one
    rcases h with ⟨ns, hl, hz, h⟩ | ⟨ns, hl, hz, h⟩
    . obtain ⟨a, xs, rfl, e1, z1⟩ := lookL_run r q hl
      rw [z1.ints] at e1
      refine .inl ⟨a, ns, rfl, SqL.of e1, hz, fun ns' l h1 h2 hl => ?_⟩
      obtain ⟨r2, le2⟩ := r.newF (o := .lst (ns'.map V.int)) hl
      exact k _ _ _ _ _ le2 r2 (.lst upd_same (.of_ints ns')) (h ns' h1 h2)
    . obtain ⟨a, xs, rfl, e1, z1⟩ := lookL_run r q hl
      rw [z1.strs] at e1
      refine .inr ⟨a, ns, rfl, SqL.of e1, hz, fun ns' l h1 h2 hl => ?_⟩
      obtain ⟨r2, le2⟩ := r.newF (o := .lst (ns'.map V.str)) hl
      exact k _ _ _ _ _ le2 r2 (.lst upd_same (.of_strs ns')) (h ns' h1 h2)
  . exact h.elim⟩
theorem sorted_ints_ok {ns : List Int} {μ : Mu} {Q : DK} (hz : ns.length < 64) (h : ∀ ns', List.Perm ns' ns -> List.Pairwise (· <= ·) ns' -> Q (.lst (ns'.map D.int)) μ) : dSorted [.lst (ns.map D.int)] μ Q := .inl ⟨ns, rfl, hz, h⟩
theorem isNon_non : isNon .non = true := rfl
theorem isNon_int {i : Int} : isNon (.int i) = false := rfl
theorem isNon_str {i : Str} : isNon (.str i) = false := rfl
theorem isNon_bl {i : Bool} : isNon (.bl i) = false := rfl
theorem isNon_lst {i : List D} : isNon (.lst i) = false := rfl
theorem isNon_tup {i : List D} : isNon (.tup i) = false := rfl
theorem isNon_cell {i : Nat} : isNon (.cell i) = false := rfl
section
variable {μ : Mu} {Q : DK}
theorem ist_non_int : dIsT [.non, .ty "int"] μ Q = Q (.bl false) μ := isi_non_int
theorem ist_non_bool : dIsT [.non, .ty "bool"] μ Q = Q (.bl false) μ := isi_non_bool
theorem ist_bl_int {x : Bool} : dIsT [(.bl x), .ty "int"] μ Q = Q (.bl true) μ := isi_bl_int (x := x)
theorem ist_bl_bool {x : Bool} : dIsT [(.bl x), .ty "bool"] μ Q = Q (.bl true) μ := isi_bl_bool (x := x)
theorem ist_int_int {x : Int} : dIsT [(.int x), .ty "int"] μ Q = Q (.bl true) μ := isi_int_int (x := x)
theorem ist_int_bool {x : Int} : dIsT [(.int x), .ty "bool"] μ Q = Q (.bl false) μ := isi_int_bool (x := x)
theorem ist_tup_int {x : List D} : dIsT [.tup x, .ty "int"] μ Q = Q (.bl false) μ := by show ("int" ∈ tyNames /\ Q (.bl (isTy "tuple" "int")) μ) = _; rw [show ("int" ∈ tyNames) = True from eq_true (by decide), true_and]; rfl
theorem ist_tup_bool {x : List D} : dIsT [.tup x, .ty "bool"] μ Q = Q (.bl false) μ := by show ("bool" ∈ tyNames /\ Q (.bl (isTy "tuple" "bool")) μ) = _; rw [show ("bool" ∈ tyNames) = True from eq_true (by decide), true_and]; rfl
theorem ist_tup_str {x : List D} : dIsT [.tup x, .ty "str"] μ Q = Q (.bl false) μ := by show ("str" ∈ tyNames /\ Q (.bl (isTy "tuple" "str")) μ) = _; rw [show ("str" ∈ tyNames) = True from eq_true (by decide), true_and]; rfl
theorem ist_tup_list {x : List D} : dIsT [.tup x, .ty "list"] μ Q = Q (.bl false) μ := by show ("list" ∈ tyNames /\ Q (.bl (isTy "tuple" "list")) μ) = _; rw [show ("list" ∈ tyNames) = True from eq_true (by decide), true_and]; rfl
theorem ist_tup_tuple {x : List D} : dIsT [.tup x, .ty "tuple"] μ Q = Q (.bl true) μ := by show ("tuple" ∈ tyNames /\ Q (.bl (isTy "tuple" "tuple")) μ) = _; rw [show ("tuple" ∈ tyNames) = True from eq_true (by decide), true_and]; rfl
theorem ist_tup_dict {x : List D} : dIsT [.tup x, .ty "dict"] μ Q = Q (.bl false) μ := by show ("dict" ∈ tyNames /\ Q (.bl (isTy "tuple" "dict")) μ) = _; rw [show ("dict" ∈ tyNames) = True from eq_true (by decide), true_and]; rfl
end
end L2

namespace L2
open PySem PySem.Spec PyProof.Rows
theorem stp {s u : DS} {D' : DEnds} {ρ : DEnv} {μ : Mu} (h : ∀ N : DEnv -> Mu -> Prop, (∀ ρ' μ', u D' ρ' μ' -> N ρ' μ') -> s { D' with nx := N } ρ μ) : dSeq s u D' ρ μ := h _ fun _ _ z => z
section
variable {Pm : Mu -> Prop} {g : DG} {we : DE} {ρb : DEnv} {Fin : List D -> Mu -> Prop} {d : D} {r ys : List D} {μ : Mu}
end
end L2

namespace L2
open PySem PySem.Spec PyProof.Rows
abbrev Tab := List (Str × List Str)
def inTab (tab : Tab) (c f : Str) : Bool := tab.any fun p => p.1 == c && p.2.contains f
class TabOk (K : PySem.W.Frag) (tab : Tab) : Prop where
  run : ∀ c f C, inTab tab c f = true -> clsOf K c = some C -> Cls K C /\ NoAttr K C f
def fldO (tab : Tab) (f c : Str) (ns : List Str) (vs : List D) (R : D -> Prop) : Prop := inTab tab c f = true /\ optK ((ns.zip vs).lookup f) R
def insK (c : Option Ct) (R : Str -> List Str -> List D -> Prop) : Prop := match c with
  | some (.ins c ns vs) => R c ns vs
  | _ => False
def insM (μ : Mu) (d : D) (R : Str -> List Str -> List D -> Prop) : Prop := match d with
  | .obj c ns vs => R c ns vs
  | .cell k => insK (μ k) R
  | _ => False
theorem insK_ins {c : Str} {ns : List Str} {vs : List D} {R : Str -> List Str -> List D -> Prop} : insK (some (.ins c ns vs)) R = R c ns vs := rfl
theorem insK_run {o : Option Ct} {R : Str -> List Str -> List D -> Prop} (h : insK o R) : ∃ c ns vs, o = some (.ins c ns vs) /\ R c ns vs := by
  unfold insK at h
  split at h
  . exact ⟨_, _, _, rfl, h⟩
  . exact h.elim
theorem insM_obj {μ : Mu} {c : Str} {ns : List Str} {vs : List D} {R : Str -> List Str -> List D -> Prop} : insM μ (.obj c ns vs) R = R c ns vs := rfl
theorem insM_cell {μ : Mu} {k : Nat} {R : Str -> List Str -> List D -> Prop} : insM μ (.cell k) R = insK (μ k) R := rfl
def fldK (tab : Tab) (f : Str) (Q : DK) : DK := fun d μ => insM μ d fun c ns vs => fldO tab f c ns vs fun v => Q v μ
def dFld (tab : Tab) (w : DE) (f : Str) : DE := fun ρ μ Q => w ρ μ (fldK tab f Q)
section
variable {K : PySem.W.Frag} {fl : Wd} {W : Wd} {μ : Mu} {H : Hp}
theorem insM_run {d : D} {x : V} {R : Str -> List Str -> List D -> Prop} (r : Rel K fl W μ H) (q : Rep K W d x) (h : insM μ d R) : ∃ c C a dx ns vs xs, clsOf K c = some C /\ x = .ref a /\ H a = some (.ins C dx (ns.zip xs)) /\ ns.length = xs.length /\ Reps K W vs xs /\ R c ns vs := by
  unfold insM at h
  split at h
  . rename_i c ns vs
    unfold Rep at q
    obtain ⟨C, a, dx, xs, hc, rfl, e, l, z⟩ := q
    exact ⟨c, C, a, dx, ns, vs, xs, hc, rfl, r.sub _ _ e, l, z, h⟩
  . rename_i k
    obtain ⟨a, rfl, hb⟩ := q.cell'
    unfold insK at h
    split at h
    . rename_i c ns vs hk
      obtain ⟨a', e1, e2, C, dx, xs, hc, e3, l3, q3⟩ := r.cel k _ hk
      rw [hb] at e1; cases e1
      exact ⟨c, C, a, dx, ns, vs, xs, hc, rfl, e3, l3, q3, h⟩
    . exact h.elim
  . exact h.elim
theorem Reps.lookup {f : Str} : ∀ {ns : List Str} {vs : List D} {xs : List V} {v : D}, Reps K W vs xs -> (ns.zip vs).lookup f = some v -> ∃ x, (ns.zip xs).lookup f = some x /\ Rep K W v x
  | [], _, _, _, _, h => by simp at h
  | _ :: _, [], _, _, _, h => by simp at h
  | n :: ns, d :: vs, xs, v, r, h => by
    obtain ⟨x, xs, rfl, q, z⟩ := r.uncons
    simp only [List.zip_cons_cons, List.lookup_cons] at h ⊢
    cases e : (f == n) with
    | true => rw [e] at h; cases h; exact ⟨x, rfl, q⟩
    | false => rw [e] at h; exact Reps.lookup z h
theorem Reps.lookup_none {f : Str} : ∀ {ns : List Str} {vs : List D} {xs : List V}, Reps K W vs xs -> (ns.zip vs).lookup f = none -> (ns.zip xs).lookup f = none
  | [], _, _, _, _ => by simp
  | _ :: _, [], _, r, _ => by rw [r.nil']; simp
  | n :: ns, d :: vs, xs, r, h => by
    obtain ⟨x, xs, rfl, q, z⟩ := r.uncons
    simp only [List.zip_cons_cons, List.lookup_cons] at h ⊢
    cases e : (f == n) with
    | true => rw [e] at h; cases h
    | false => rw [e] at h; exact Reps.lookup_none z h
instance {tab : Tab} {ta : TE} {wa : DE} {f : Str} [t : TabOk K tab] [a : SimE K fl ta wa] : SimE K fl (tFld K ta f) (dFld tab wa f) := ⟨fun {W ρ μ σ H Q Q'} r e h k => a.run r e h fun W1 d μ1 x H1 le1 r1 q1 h1 => by
  obtain ⟨c, C, a, dx, ns, vs, xs, hc, rfl, ea, l, z, hi, hl⟩ := insM_run r1 q1 h1
  unfold optK at hl
  split at hl
  . rename_i v hv
    obtain ⟨x, hx, q⟩ := z.lookup hv
    obtain ⟨c1, c2⟩ := t.run c f C hi hc
    exact ⟨a, C, dx, _, x, rfl, ea, c1, c2, hx, k _ _ _ _ _ le1 r1 q hl⟩
  . exact hl.elim⟩
end
def putN (f : Str) : List Str -> List Str
  | [] => [f]
  | g :: r => if g = f then g :: r else g :: putN f r
def putD (f : Str) (v : D) : List Str -> List D -> List D
  | g :: r, x :: xs => if g = f then v :: xs else x :: putD f v r xs
  | _, _ => [v]
def setO (tab : Tab) (f : Str) (v : D) (c : Str) (ns : List Str) (vs : List D) (R : List Str -> List D -> Prop) : Prop := inTab tab c f = true /\ ns.length < 1000 /\ R (putN f ns) (putD f v ns vs)
def dSetF (tab : Tab) (wo w : DE) (f : Str) : DS := fun D ρ μ => w ρ μ fun v μ1 => wo ρ μ1 fun d μ2 => match d with
  | .cell k => insK (μ2 k) fun c ns vs => setO tab f v c ns vs fun ns' vs' => D.nx ρ (mset μ2 k (.ins c ns' vs'))
  | _ => False
def setK (tab : Tab) (f : Str) (v : D) (D0 : DEnds) (ρ : DEnv) : DK := fun d μ2 => match d with
  | .cell k => insK (μ2 k) fun c ns vs => setO tab f v c ns vs fun ns' vs' => D0.nx ρ (mset μ2 k (.ins c ns' vs'))
  | _ => False
theorem e_setf {tab : Tab} {wo w : DE} {f : Str} {D0 : DEnds} {ρ : DEnv} {μ : Mu} : dSetF tab wo w f D0 ρ μ = w ρ μ fun v μ1 => wo ρ μ1 (setK tab f v D0 ρ) := rfl
theorem setK_cell {tab : Tab} {f : Str} {v : D} {D0 : DEnds} {ρ : DEnv} {k : Nat} {μ : Mu} : setK tab f v D0 ρ (.cell k) μ = insK (μ k) fun c ns vs => setO tab f v c ns vs fun ns' vs' => D0.nx ρ (mset μ k (.ins c ns' vs')) := rfl
section
variable {K : PySem.W.Frag} {fl : Wd} {W : Wd}
theorem put_zip {f : Str} {y : V} : ∀ {ns : List Str} {xs : List V}, ns.length = xs.length -> ∃ xs', putF f y (ns.zip xs) = (putN f ns).zip xs' /\ (putN f ns).length = xs'.length /\ ∀ {vs : List D} {v : D}, Reps K W vs xs -> Rep K W v y -> Reps K W (putD f v ns vs) xs'
  | [], [], _ => ⟨[y], rfl, rfl, fun {vs v} r q => by
      cases vs with
      | nil => exact .cons q .nil
      | cons d vs => obtain ⟨x, r', e, _⟩ := r.uncons; cases e⟩
  | [], _ :: _, h => by simp at h
  | _ :: _, [], h => by simp at h
  | n :: ns, x :: xs, h => by
    obtain ⟨xs', e1, e2, e3⟩ := put_zip (f := f) (y := y) (ns := ns) (xs := xs) (by simpa using h)
    by_cases hn : n = f
    . refine ⟨y :: xs, ?_, ?_, fun {vs v} r q => ?_⟩
      . simp [putF, putN, hn]
      . simp only [putN, if_pos hn]; simpa using h
      . cases vs with
        | nil => have := r.nil'; cases this
        | cons d vs =>
          obtain ⟨x', r', e, q1, z⟩ := r.uncons
          cases e
          simp only [putD, if_pos hn]
          exact .cons q z
    . refine ⟨x :: xs', ?_, ?_, fun {vs v} r q => ?_⟩
      . simp only [List.zip_cons_cons, putF, putN, if_neg hn, e1]
      . simp only [putN, if_neg hn, List.length_cons, e2]
      . cases vs with
        | nil => have := r.nil'; cases this
        | cons d vs =>
          obtain ⟨x', r', e, q1, z⟩ := r.uncons
          cases e
          simp only [putD, if_neg hn]
          exact .cons q1 (e3 z q)
instance {tab : Tab} {ta tv : TE} {wa wv : DE} {f : Str} [t : TabOk K tab] [a : SimE K fl ta wa] [b : SimE K fl tv wv] : SimS K fl (sFld K ta tv f) (dSetF tab wa wv f) := ⟨fun {W ρ μ σ H D' D} r e h k => b.run r e h fun W1 v μ1 y H1 le1 r1 qv h1 => a.run r1 (e.mono le1) h1 fun W2 d μ2 x H2 le2 r2 q2 h2 => by
  cases d <;> first | exact h2.elim | skip
  rename_i kk
  obtain ⟨a, rfl, hb⟩ := q2.cell'
  obtain ⟨c, ns, vs, hk, h2⟩ := insK_run (o := μ2 kk) h2
  obtain ⟨a', e1, e2, C, dx, xs, hc, e3, l3, q3⟩ := r2.cel kk _ hk
  rw [hb] at e1; cases e1
  obtain ⟨hi, hz, h2⟩ := h2
  obtain ⟨c1, c2⟩ := t.run c f C hi hc
  obtain ⟨xs', p1, p2, p3⟩ := put_zip (K := K) (W := W2) (f := f) (y := y) l3
  refine ⟨a, C, dx, _, rfl, e3, c1, c2, by rw [List.length_zip, <- l3, Nat.min_self]; exact hz, ?_⟩
  rw [p1]
  exact k.nx W2 ρ _ σ _ (le1.trans le2) (r2.setC (c' := .ins c (putN f ns) (putD f v ns vs)) hk hb ⟨C, dx, xs', hc, rfl, p2, p3 q3 (qv.mono le2)⟩) (e.mono (le1.trans le2)) h2⟩
end
structure HasMt (P : Program) (w : World) (K : PySem.W.Frag) (mg : Str -> Option Value) (base : Heap) (CX : CXT) (c m : Str) (k : Nat) (ps : List Str) (sp : Sp) (ks : List Str) (gV : List V -> List V -> List V) : Prop where
  ex : ∃ C f fd g, clsOf K c = some C /\ Cls K C /\ Meth K C m f /\ FnOk P w K mg base CX k f fd ps sp /\ KBinds K fd ps ks g gV
def tMethC (K : PySem.W.Frag) (c m : Str) (sp : Sp) (gV : List V -> List V -> List V) (E : XK) (ta : TE) (t tk : TA) : TE := fun σ H Q => ta σ H fun x H1 => ∃ C a dx fs, clsOf K c = some C /\ x = .ref a /\ H1 a = some (.ins C dx fs) /\ fs.lookup m = none /\
  t σ H1 fun vs H2 => tk σ H2 fun zs H3 => sp (gV (x :: vs) zs) H3 Q E
section
variable {X : Cx} {CX : CXT} {j k : Nat} {ps ks : List Str} {sp : Sp} {E : XK} {c m : Str} {pos apos : Pos} {e o : Expr} {es : List Expr} {ta : TE} {t tk : TA} {kws : List Keyword} {gV : List V -> List V -> List V}
theorem qe_methK {pl : Sem Bool} (K : PySem.W.Frag) (hh : HasMt X.prog X.w X.K X.mg X.base CX c m j ps sp ks gV) (hr : Room k X.A) (he : WE X o ta) (ha : WA X (e :: es) t) (hkw : WK X kws tk) (hK : X.K = K := by rfl) (hj : j <= k := by decide) (hx : Passes CX X E := by exact pass0)
    (hall : (backToKw pos (keywordEach kws X.env)).all (·.1.isSome) = true := by rfl) (hks : (backToKw pos (keywordEach kws X.env)).filterMap (·.1) = ks := by rfl)
    (hst : starEach (e :: es) X.env = (false, eval e X.env) :: starEach es X.env := by rfl)
    (hpl : ((backTo pos (starEach (e :: es) X.env)).any (·.1) || (backToKw pos (keywordEach kws X.env)).any (·.1.isNone)) = false := by rfl)
    (ht : eval (.Call (.Attribute o m apos) (e :: es) kws pos) X.env = (do
      let ov <- eval o X.env
      standAt apos.atName
      let (f, first) <- holding [ov] (getMethod ov m pl)
      callWith pos f first (backTo pos (starEach (e :: es) X.env)) (backToKw pos (keywordEach kws X.env))) := by rfl) :
    WE X (.Call (.Attribute o m apos) (e :: es) kws pos) (tMethC K c m sp gV E ta t tk) := ⟨by
  subst hK
  obtain ⟨C0, f, fd, g, hc0, hcl, hm, F, hb⟩ := hh.ex
  intro pins s σ H Q I h
  refine PySem.W.methodCall_KW (pl := pl) (thn (he.out pins s σ H _ I h) fun u s1 ⟨x, H1, I1, rx, C, a, dx, fs, hc, ex, ea, l, q⟩ => ?_) ht
  rw [hc0] at hc; cases hc
  subst ex
  obtain rfl : u = Value.ref a := rx
  refine getmeth_ok I1 ea hcl hm l ?_
  refine PySem.W.callWith_KW (first := [.ref a]) (h₀ := X.base) I.ok.mod.kin hm.kp hall (thn (ha.out pos pins s1 σ H1 _ I1 q) fun us s2 ⟨vs, H2, I2, r, q2⟩ => ?_) hpl hst
  refine thn (hkw.out pos pins s2 σ H2 _ I2 q2) fun ws s3 ⟨zs, H3, I3, rz, q3⟩ => ⟨I3.kIn, ?_⟩
  rw [hks]
  exact run_fnk (us := .ref a :: us) (vs := .ref a :: vs) (F.mono hj) hr hb hx I3 (.cons rfl r) rz q3⟩
theorem qe_methK0 {pl : Sem Bool} (K : PySem.W.Frag) (hh : HasMt X.prog X.w X.K X.mg X.base CX c m j ps sp [] gV) (hr : Room k X.A) (he : WE X o ta) (hK : X.K = K := by rfl) (hj : j <= k := by decide) (hx : Passes CX X E := by exact pass0)
    (ht : eval (.Call (.Attribute o m apos) [] [] pos) X.env = (do
      let ov <- eval o X.env
      standAt apos.atName
      let (f, first) <- holding [ov] (getMethod ov m pl)
      callWith pos f first (backTo pos (starEach [] X.env)) (backToKw pos (keywordEach [] X.env))) := by rfl) :
    WE X (.Call (.Attribute o m apos) [] [] pos) (tMethC K c m sp gV E ta tNil tNil) := ⟨by
  subst hK
  obtain ⟨C0, f, fd, g, hc0, hcl, hm, F, hb⟩ := hh.ex
  intro pins s σ H Q I h
  refine PySem.W.methodCall_KW (pl := pl) (thn (he.out pins s σ H _ I h) fun u s1 ⟨x, H1, I1, rx, C, a, dx, fs, hc, ex, ea, l, q⟩ => ?_) ht
  rw [hc0] at hc; cases hc
  subst ex
  obtain rfl : u = Value.ref a := rx
  refine getmeth_ok I1 ea hcl hm l ?_
  exact PySem.W.callWith_K0 (first := [.ref a]) I1.kIn hm.kp (run_fnk (us := [.ref a]) (vs := [.ref a]) (ws := []) (zs := []) (F.mono hj) hr hb hx I1 (.cons rfl .nil) .nil q)⟩
end
def dMeth (c m : Str) (dsp : DSp) (n j : Nat) (pat : List Src) (cs : List D) (wo : DE) (w wk : DA) : DE := fun ρ μ Q => wo ρ μ fun d μ1 => (insM μ1 d fun c' ns vs => c' = c /\ (ns.zip vs).lookup m = none) /\ w ρ μ1 fun ds μ2 => wk ρ μ2 fun es μ3 => dsp (sel n j pat .non cs (d :: ds) es) μ3 Q
instance {K : PySem.W.Frag} {fl : Wd} {c m : Str} {dsp : DSp} {n j : Nat} {pat : List Src} {csD : List D} {csV : List V} {E : XK} {ta : TE} {wa : DE} {t tk : TA} {w wk : DA} [o : SimE K fl ta wa] [a : SimA K fl t w] [b : SimA K fl tk wk] [cr : CRep K csD csV] : SimE K fl (tMethC K c m (lift K dsp) (sel n j pat .non csV) E ta t tk) (dMeth c m dsp n j pat csD wa w wk) := ⟨fun {W ρ μ σ H Q Q'} r e h k =>
  o.run r e h fun W1 d μ1 x H1 le1 r1 q1 h1 => by
    obtain ⟨c', C, p, dx, ns, vs, xs, hc, rfl, ea, l, z, rfl, hl⟩ := insM_run r1 q1 h1.1
    refine ⟨C, p, dx, _, hc, rfl, ea, z.lookup_none hl, a.run r1 (e.mono le1) h1.2 fun W2 ds μ2 xs H2 le2 r2 q2 h2 => b.run r2 (e.mono (le1.trans le2)) h2 fun W3 es μ3 ys H3 le3 r3 q3 h3 => ?_⟩
    exact ⟨fl, W3, μ3, _, Q, r3, sel_reps (cr.run W3) (.cons (q1.mono (le2.trans le3)) (q2.mono le3)) q3, h3, fun W4 d4 μ4 x4 H4 le4 => k W4 d4 μ4 x4 H4 (le1.trans (le2.trans (le3.trans le4)))⟩⟩
structure HasMk (P : Program) (w : World) (K : PySem.W.Frag) (mg : Str -> Option Value) (base : Heap) (CX : CXT) (c : Str) (k : Nat) (ps : List Str) (sp : Sp) (ks : List Str) (gV : List V -> List V -> List V) : Prop where
  ex : ∃ C f fd g, clsOf K c = some C /\ Mk K C f /\ FnOk P w K mg base CX k f fd ps sp /\ KBinds K fd ps ks g gV /\ mg c = some (.ref C)
def tMakeC (K : PySem.W.Frag) (c : Str) (sp : Sp) (gV : List V -> List V -> List V) (E : XK) (t tk : TA) : TE := fun σ H Q => t σ H fun vs H1 => tk σ H1 fun zs H2 => ∀ C x dx, clsOf K c = some C -> H2 x = none -> H2 dx = none -> dx ≠ x ->
  sp (gV (.ref x :: vs) zs) (upd (upd H2 dx (.own x)) x (.ins C dx [])) (fun v H3 => v = .non /\ Q (.ref x) H3) E
section
variable {X : Cx} {CX : CXT} {j k : Nat} {ps ks : List Str} {sp : Sp} {E : XK} {c : Str} {p pos : Pos} {e : Expr} {es : List Expr} {t tk : TA} {kws : List Keyword} {gV : List V -> List V -> List V}
theorem qe_makeC (K : PySem.W.Frag) (h : HasMk X.prog X.w X.K X.mg X.base CX c j ps sp ks gV) (hr : Room k X.A) (ha : WA X (e :: es) t) (hkw : WK X kws tk) (hK : X.K = K := by rfl) (hj : j + 1 <= k := by decide) (hg : Gl X c := by rfl) (hx : Passes CX X E := by exact pass0)
    (hall : (backToKw pos (keywordEach kws X.env)).all (·.1.isSome) = true := by rfl) (hks : (backToKw pos (keywordEach kws X.env)).filterMap (·.1) = ks := by rfl)
    (hdb : (c == ("__debug__" : Str)) = false := by decide) (he : starEach (e :: es) X.env = (false, eval e X.env) :: starEach es X.env := by rfl)
    (hpl : ((backTo pos (starEach (e :: es) X.env)).any (·.1) || (backToKw pos (keywordEach kws X.env)).any (·.1.isNone)) = false := by rfl) : WE X (.Call (.Name c p) (e :: es) kws pos) (tMakeC K c sp gV E t tk) := ⟨by
  subst hK
  obtain ⟨C, f, fd, g, hc, M, F, b, m⟩ := h.ex
  intro pins s σ H Q I h
  refine wpAny_Call_Name_kw (ld_glob I hg m ?_ hdb)
  refine PySem.W.callWith_KW (h₀ := X.base) I.ok.mod.kin M.kp hall (thn (ha.out pos pins s σ H _ I h) fun us s1 ⟨vs, H1, I1, r, q⟩ => ?_) hpl he
  refine thn (hkw.out pos pins s1 σ H1 _ I1 q) fun ws s2 ⟨zs, H2, I2, rz, q2⟩ => ⟨I2.kIn, ?_⟩
  rw [hks]
  exact run_makeK M F (hr.mono hj) b hx I2 r rz fun x dx h1 h2 h3 => q2 C x dx hc h1 h2 h3⟩
end
def dMake (c : Str) (dsp : DSp) (n j : Nat) (pat : List Src) (cs : List D) (w wk : DA) : DE := fun ρ μ Q => w ρ μ fun ds μ1 => wk ρ μ1 fun es μ2 => ∀ k, μ2 k = none -> dsp (sel n j pat .non cs (.cell k :: ds) es) (mset μ2 k (.ins c [] [])) fun d μ3 => d = .non /\ Q (.cell k) μ3
def dMakeF (c : Str) (dsp : DSp) (n j : Nat) (pat : List Src) (cs : List D) (w wk : DA) : DE := fun ρ μ Q => w ρ μ fun ds μ1 => wk ρ μ1 fun es μ2 => ∀ k, μ2 k = none -> dsp (sel n j pat .non cs (.cell k :: ds) es) (mset μ2 k (.ins c [] [])) fun d μ3 => d = .non /\ frzD μ3 (.cell k) Q
section
variable {K : PySem.W.Frag} {fl : Wd} {c : Str} {dsp : DSp} {n j : Nat} {pat : List Src} {csD : List D} {csV : List V} {E : XK} {t tk : TA} {w wk : DA}
theorem new_ins {W : Wd} {μ : Mu} {H : Hp} {C x dx : Addr} (r : Rel K fl W μ H) (hc : clsOf K c = some C) (h1 : H x = none) (h2 : H dx = none) (h3 : dx ≠ x) : ∃ (k : Nat) (W' : Wd), μ k = none /\ W.le W' /\ Rel K fl W' (mset μ k (.ins c [] [])) (upd (upd H dx (.own x)) x (.ins C dx [])) /\ W'.b k = some x := by
  have r1 : Rel K fl W μ (upd H dx (.own x)) := r.same (same_upd h2)
  have hx : upd H dx (.own x) x = none := by rw [upd_ne (Ne.symm h3)]; exact h1
  exact r1.newC (o := .ins C dx []) (c := .ins c [] []) hx ⟨C, dx, [], hc, rfl, rfl, .nil⟩
instance [a : SimA K fl t w] [b : SimA K fl tk wk] [cr : CRep K csD csV] : SimE K fl (tMakeC K c (lift K dsp) (sel n j pat .non csV) E t tk) (dMake c dsp n j pat csD w wk) := ⟨fun {W ρ μ σ H Q Q'} r e h k =>
  a.run r e h fun W1 ds μ1 xs H1 le1 r1 q1 h1 => b.run r1 (e.mono le1) h1 fun W2 es μ2 ys H2 le2 r2 q2 h2 C x dx hc g1 g2 g3 => by
    obtain ⟨kk, W3, hk, le3, r3, e3⟩ := new_ins r2 hc g1 g2 g3
    refine ⟨fl, W3, _, _, _, r3, sel_reps (cr.run W3) (.cons (by unfold Rep; exact ⟨x, rfl, e3⟩) (q1.mono (le2.trans le3))) (q2.mono le3), h2 kk hk, fun W4 d4 μ4 x4 H4 le4 r4 q4 h4 => ?_⟩
    obtain ⟨rfl, h4⟩ := h4
    exact ⟨q4.n', k W4 (.cell kk) μ4 _ H4 (le1.trans (le2.trans (le3.trans le4))) r4 (by unfold Rep; exact ⟨x, rfl, le4.b _ _ e3⟩) h4⟩⟩
end
theorem clsOf_of {K : PySem.W.Frag} {c : Str} {C : Addr} (h : PySem.W.nsIn K mainGlobals c = some (some (.ref C))) : clsOf K c = some C := by unfold clsOf; rw [h]
theorem tabOk_nil {K : PySem.W.Frag} : TabOk K [] := ⟨fun _ _ _ h => by simp [inTab] at h⟩
theorem tabOk_cons {K : PySem.W.Frag} {c : Str} {fs : List Str} {tab : Tab} {C : Addr} (hc : clsOf K c = some C) (cl : Cls K C) (hf : ∀ f ∈ fs, NoAttr K C f) (t : TabOk K tab) : TabOk K ((c, fs) :: tab) := ⟨fun c' f C' hi h => by
  simp only [inTab, List.any_cons, Bool.or_eq_true, Bool.and_eq_true] at hi
  rcases hi with ⟨h1, h2⟩ | h1
  . have e := eq_of_beq h1
    subst e
    rw [hc] at h; cases h
    exact ⟨cl, hf f (List.contains_iff_mem.mp h2)⟩
  . exact t.run c' f C' h1 h⟩
end L2

namespace L2
open PySem PySem.Spec PyProof.Rows
def rMulS : R2 := fun x y H Q => ∃ c n, x = .str ⟨#[c]⟩ /\ y = .int n /\ 0 <= n /\ n <= 1000 /\ ∀ z : Str, z.cps.toList = List.replicate n.toNat c -> Q (.str z) H
def rMulG2 : R2 := fun x y H Q => rMulG x y H Q \/ rMulS x y H Q
theorem op_mulG2 {X : Cx} : OpR X (binaryOp .Mult) rMulG2 := op_mulG.or op_mul_str
def dMul2 : DR2 := fun d e μ Q => match d, e with
  | .str z, .int n => ∃ c, z = ⟨#[c]⟩ /\ 0 <= n /\ n <= 1000 /\ ∀ y : Str, y.cps.toList = List.replicate n.toNat c -> Q (.str y) μ
  | d, e => dMul d e μ Q
instance {K : PySem.W.Frag} {fl : Wd} : SimR2 K fl rMulG2 dMul2 := ⟨fun {W μ H d e x y Q Q'} r q1 q2 h k => by
  unfold dMul2 at h
  split at h
  . obtain ⟨c, rfl, h1, h2, h⟩ := h
    rw [q1.s', q2.i']
    exact .inr ⟨c, _, rfl, rfl, h1, h2, fun z hz => k _ _ _ _ _ (.refl _) r .s (h z hz)⟩
  . exact .inl (SimR2.run (K := K) (r := rMulG) (q := dMul) r q1 q2 h k)⟩
section
variable {μ : Mu} {Q : DK} {i j : Int} {ds : List D}
theorem e2_mul : dMul2 (.int i) (.int j) μ Q = (CMul i j /\ Q (.int (i * j)) μ) := rfl
end
theorem dCLoopN_by {Pm : Mu -> Prop} {g : DG} {ds : List D} {μ : Mu} {we : DE} {ρb : DEnv} {Fin : List D -> Mu -> Prop} {ys : List D} (I : Nat -> List D -> Mu -> Prop) (h0 : I 0 ys μ)
    (step : ∀ i d ys μ, ds[i]? = some d -> I i ys μ -> ys.length < sizeLine /\ ∀ N : List D -> Mu -> Prop, (∀ ys' μ', I (i + 1) ys' μ' -> N ys' μ') -> g d ρb μ fun ρ2 μ2 => we ρ2 μ2 fun v μ4 => N (ys ++ [v]) μ4)
    (fin : ∀ ys μ, I ds.length ys μ -> Fin ys μ) (hP : ∀ i ys μ, I i ys μ -> Pm μ := by exact fun _ _ _ _ => trivial) : dCLoop g dNoT we ρb Pm Fin ds ys μ :=
  dCLoop_by I h0 (fun i d ys μ hd hI => ⟨(step i d ys μ hd hI).1, fun N hN => (step i d ys μ hd hI).2 N hN⟩) fin hP
theorem dCLoop_filtM {α : Type} {Pm : Mu -> Prop} {g : DG} {μ : Mu} {wc : DT} {we : DE} {ρb : DEnv} {Fin : List D -> Mu -> Prop} (xs : List α) (f : α -> D) (p : α -> Bool) (f' : α -> D) (hl : xs.length <= sizeLine)
    (step : ∀ x ∈ xs, ∀ (Y : DK) (Z : Mu -> Prop), (p x = true -> Y (f' x) μ) -> (p x = false -> Z μ) -> g (f x) ρb μ fun ρ2 μ2 => wc ρ2 μ2 fun b μ3 => if b = true then we ρ2 μ3 Y else Z μ3)
    (fin : Fin ((xs.filter p).map f') μ) (hP : Pm μ := by exact trivial) : dCLoop g wc we ρb Pm Fin (xs.map f) [] μ := by
  refine dCLoop_by (fun i ys μ' => μ' = μ /\ ys = ((xs.take i).filter p).map f') ⟨rfl, by simp⟩ (fun i d ys μ' hd hI => ?_) (fun ys μ' hI => ?_) (fun i ys μ' h => h.1 ▸ hP)
  . obtain ⟨rfl, rfl⟩ := hI
    rw [List.getElem?_map] at hd
    cases hx : xs[i]? with
    | none => rw [hx] at hd; cases hd
    | some x =>
      rw [hx] at hd
      cases hd
      have hi := (List.getElem?_eq_some_iff.mp hx).1
      refine ⟨?_, fun N hN => ?_⟩
      . have := List.length_filter_le p (xs.take i)
        rw [List.length_map]
        rw [List.length_take] at this
        omega
      . refine step x (List.mem_of_getElem? hx) (fun v μ4 => N (((xs.take i).filter p).map f' ++ [v]) μ4) (fun μ3 => N (((xs.take i).filter p).map f') μ3) (fun hp => hN _ _ ⟨rfl, ?_⟩) (fun hp => hN _ _ ⟨rfl, ?_⟩)
        . rw [List.take_add_one, hx]; simp [hp]
        . rw [List.take_add_one, hx]; simp [hp]
  . obtain ⟨rfl, rfl⟩ := hI
    rw [List.length_map, List.take_length]; exact fin
end L2

namespace L2
open PySem PySem.Spec PyProof.Rows
theorem flatDs_ints : ∀ xs : List Int, flatDs (xs.map D.int) = some (xs.map V.int)
  | [] => rfl
  | x :: r => by rw [List.map_cons, flatDs, flatDs_ints r]; rfl
theorem inV_ints (x : Int) : ∀ xs : List Int, inV (.int x) (xs.map V.int) = decide (x ∈ xs)
  | [] => by simp [inV]
  | y :: r => by
    have ih := inV_ints x r
    unfold inV at ih ⊢
    rw [List.map_cons, List.any_cons, ih]
    show ((y == x) || decide (x ∈ r)) = decide (x ∈ y :: r)
    by_cases h : y = x
    . subst h; simp
    . have h' : ¬ x = y := fun e => h e.symm
      simp [h, h']
def isInS (signs x : Str) : Bool := !(Builtin.Str.occurrences signs x 0 signs.length 1).isEmpty
def dInS : DR2 := fun d e μ Q => match d, e with
  | .str i, .str j => Q (.bl (isInS j i)) μ
  | _, _ => False
theorem e_ins {i j : Str} {μ : Mu} {Q : DK} : dInS (.str i) (.str j) μ Q = Q (.bl (isInS j i)) μ := rfl
def dLenSet (w : DE) : DE := fun ρ μ Q => w ρ μ fun d μ1 => match d with
  | .tup ds => ∃ ys, ds = ys.map D.str /\ ys.length <= 100 /\ Q (.int (manyS ys : Nat)) μ1
  | _ => False
section
variable {μ : Mu} {Q : DK} {c : Str}
end
end L2

namespace L2
open PySem PySem.Spec PyProof.Rows
def mkFK (c : Str) (dsp : DSp) (n j : Nat) (pat : List Src) (cs ds es : List D) (μ : Mu) (Q : DK) : Prop := ∀ k, μ k = none -> dsp (sel n j pat .non cs (.cell k :: ds) es) (mset μ k (.ins c [] [])) fun d μ3 => d = .non /\ frzD μ3 (.cell k) Q
theorem e_makeF {c : Str} {dsp : DSp} {n j : Nat} {pat : List Src} {cs : List D} {w wk : DA} {ρ : DEnv} {μ : Mu} {Q : DK} : dMakeF c dsp n j pat cs w wk ρ μ Q = w ρ μ fun ds μ1 => wk ρ μ1 fun es μ2 => mkFK c dsp n j pat cs ds es μ2 Q := rfl
theorem sl6_to2 {a b c d e f : D} {μ : Mu} {Q : DK} : dSlG (.tup [a, b, c, d, e, f]) none (some 2) μ Q = Q (.tup [a, b]) μ := by
  rw [e_slt]
  simp only [show cutD [a, b, c, d, e, f] none (some 2) = [a, b] from cutD_hi _ 2, eq_iff_iff, and_iff_right_iff_imp]
  intro _ ⟨_, h⟩
  have h3 : HT.sIx 6 6 (some 2) = 2 := HT.sIx_nat 6 6 2
  have h2 : HT.sIx 6 6 (some 2) = 6 := h
  rw [h3] at h2; omega
theorem sl6_to3 {a b c d e f : D} {μ : Mu} {Q : DK} : dSlG (.tup [a, b, c, d, e, f]) none (some 3) μ Q = Q (.tup [a, b, c]) μ := by
  rw [e_slt]
  simp only [show cutD [a, b, c, d, e, f] none (some 3) = [a, b, c] from cutD_hi _ 3, eq_iff_iff, and_iff_right_iff_imp]
  intro _ ⟨_, h⟩
  have h3 : HT.sIx 6 6 (some 3) = 3 := HT.sIx_nat 6 6 3
  have h2 : HT.sIx 6 6 (some 3) = 6 := h
  rw [h3] at h2; omega
theorem sl6_to4 {a b c d e f : D} {μ : Mu} {Q : DK} : dSlG (.tup [a, b, c, d, e, f]) none (some 4) μ Q = Q (.tup [a, b, c, d]) μ := by
  rw [e_slt]
  simp only [show cutD [a, b, c, d, e, f] none (some 4) = [a, b, c, d] from cutD_hi _ 4, eq_iff_iff, and_iff_right_iff_imp]
  intro _ ⟨_, h⟩
  have h3 : HT.sIx 6 6 (some 4) = 4 := HT.sIx_nat 6 6 4
  have h2 : HT.sIx 6 6 (some 4) = 6 := h
  rw [h3] at h2; omega
theorem sl6_to5 {a b c d e f : D} {μ : Mu} {Q : DK} : dSlG (.tup [a, b, c, d, e, f]) none (some 5) μ Q = Q (.tup [a, b, c, d, e]) μ := by
  rw [e_slt]
  simp only [show cutD [a, b, c, d, e, f] none (some 5) = [a, b, c, d, e] from cutD_hi _ 5, eq_iff_iff, and_iff_right_iff_imp]
  intro _ ⟨_, h⟩
  have h3 : HT.sIx 6 6 (some 5) = 5 := HT.sIx_nat 6 6 5
  have h2 : HT.sIx 6 6 (some 5) = 6 := h
  rw [h3] at h2; omega
theorem sl6_from1 {a b c d e f : D} {μ : Mu} {Q : DK} : dSlG (.tup [a, b, c, d, e, f]) (some 1) none μ Q = Q (.tup [b, c, d, e, f]) μ := by
  rw [e_slt]
  simp only [show cutD [a, b, c, d, e, f] (some 1) none = [b, c, d, e, f] from cutD_lo _ 1, eq_iff_iff, and_iff_right_iff_imp]
  intro _ ⟨h, _⟩
  have h3 : HT.sIx 6 0 (some 1) = 1 := HT.sIx_nat 6 0 1
  have h2 : HT.sIx 6 0 (some 1) = 0 := h
  rw [h3] at h2; omega
theorem sl6_from2 {a b c d e f : D} {μ : Mu} {Q : DK} : dSlG (.tup [a, b, c, d, e, f]) (some 2) none μ Q = Q (.tup [c, d, e, f]) μ := by
  rw [e_slt]
  simp only [show cutD [a, b, c, d, e, f] (some 2) none = [c, d, e, f] from cutD_lo _ 2, eq_iff_iff, and_iff_right_iff_imp]
  intro _ ⟨h, _⟩
  have h3 : HT.sIx 6 0 (some 2) = 2 := HT.sIx_nat 6 0 2
  have h2 : HT.sIx 6 0 (some 2) = 0 := h
  rw [h3] at h2; omega
theorem sl6_from4 {a b c d e f : D} {μ : Mu} {Q : DK} : dSlG (.tup [a, b, c, d, e, f]) (some 4) none μ Q = Q (.tup [e, f]) μ := by
  rw [e_slt]
  simp only [show cutD [a, b, c, d, e, f] (some 4) none = [e, f] from cutD_lo _ 4, eq_iff_iff, and_iff_right_iff_imp]
  intro _ ⟨h, _⟩
  have h3 : HT.sIx 6 0 (some 4) = 4 := HT.sIx_nat 6 0 4
  have h2 : HT.sIx 6 0 (some 4) = 0 := h
  rw [h3] at h2; omega
theorem sl6_from5 {a b c d e f : D} {μ : Mu} {Q : DK} : dSlG (.tup [a, b, c, d, e, f]) (some 5) none μ Q = Q (.tup [f]) μ := by
  rw [e_slt]
  simp only [show cutD [a, b, c, d, e, f] (some 5) none = [f] from cutD_lo _ 5, eq_iff_iff, and_iff_right_iff_imp]
  intro _ ⟨h, _⟩
  have h3 : HT.sIx 6 0 (some 5) = 5 := HT.sIx_nat 6 0 5
  have h2 : HT.sIx 6 0 (some 5) = 0 := h
  rw [h3] at h2; omega
theorem atI_5 {α : Type} {a b c d e f : α} {r : List α} : atI (a :: b :: c :: d :: e :: f :: r) 5 = some f := atI_nat (j := 5) rfl
end L2

namespace L2
open PySem PySem.Spec PyProof.Rows
def Ev (w : DE) (ρ : DEnv) (μ : Mu) (d : D) : Prop := ∀ Q : DK, Q d μ -> w ρ μ Q
def Evs (w : DA) (ρ : DEnv) (μ : Mu) (ds : List D) : Prop := ∀ Q : List D -> Mu -> Prop, Q ds μ -> w ρ μ Q
def EvO (q : DR2) (d e : D) (μ : Mu) (v : D) : Prop := ∀ Q : DK, Q v μ -> q d e μ Q
def EvB (q : DRs) (ds : List D) (μ : Mu) (v : D) : Prop := ∀ Q : DK, Q v μ -> q ds μ Q
section
variable {w wa wb : DE} {wr : DA} {ρ : DEnv} {μ : Mu} {d e v : D} {ds es : List D} {i : Nat} {q : DR2} {D' : DEnds}
theorem ev_var (h : ρ[i]? = some (some d)) : Ev (dVar i) ρ μ d := fun Q z => by unfold dVar; rw [h]; exact z
theorem ev_c : Ev (dC d) ρ μ d := fun Q z => z
theorem ev_op (h1 : Ev wa ρ μ d) (h2 : Ev wb ρ μ e) (h3 : EvO q d e μ v) : Ev (dOp q wa wb) ρ μ v := fun Q z => h1 _ (h2 _ (h3 _ z))
theorem evs_nil : Evs dNil ρ μ [] := fun Q z => z
theorem evs_cons (h1 : Ev wa ρ μ d) (h2 : Evs wr ρ μ ds) : Evs (dCons wa wr) ρ μ (d :: ds) := fun Q z => h1 _ (h2 _ z)
theorem ev_tup (h : Evs wr ρ μ ds) (hl : ds.length <= 1000) : Ev (dTup wr) ρ μ (.tup ds) := fun Q z => h _ ⟨Nat.le_trans hl (by decide), z⟩
theorem ev_lst (h : Evs wr ρ μ ds) (hl : ds.length <= 1000) : Ev (dLst wr) ρ μ (.lst ds) := fun Q z => h _ ⟨Nat.le_trans hl (by decide), z⟩
theorem ev_cb {q : DRs} (h : Evs wr ρ μ ds) (h3 : EvB q ds μ v) : Ev (dCB q wr) ρ μ v := fun Q z => h _ (h3 _ z)
theorem ev_ixt {j : Int} (h : atI ds j = some v) : EvO dIx (.tup ds) (.int j) μ v := fun Q z => by rw [e_ixt, h]; exact z
theorem ev_ixl {j : Int} (h : atI ds j = some v) : EvO dIx (.lst ds) (.int j) μ v := fun Q z => by rw [e_ixl, h]; exact z
theorem ev_addt (h1 : ds ≠ []) (hl : ds.length + es.length <= 1000) : EvO dAdd (.tup ds) (.tup es) μ (.tup (ds ++ es)) := fun Q z => by
  rw [e_addt]; exact ⟨h1, Nat.le_trans hl (by decide), z⟩
theorem ev_add {a b : Int} : EvO dAdd (.int a) (.int b) μ (.int (a + b)) := fun Q z => by rw [e_add]; exact z
theorem ev_eqi {a b : Int} : EvO dEq (.int a) (.int b) μ (.bl (decide (a = b))) := fun Q z => by rw [dEq_int]; exact z
theorem ev_tuplel : EvB dTuple [.lst ds] μ (.tup ds) := fun Q z => by rw [e_tuplel]; exact z
theorem ev_slto {n : Nat} {m : Int} (h : Ev w ρ μ (.tup ds)) (hm : m = n) (hl : n < ds.length) : Ev (dSl dSlG w dNoPart (dPart (dC (.int m)))) ρ μ (.tup (ds.take n)) := fun Q z => h _ (by
  subst hm
  show dSlG (.tup ds) none (some (n : Int)) μ Q
  rw [e_slt, cutD_hi]
  refine ⟨fun ⟨_, h2⟩ => ?_, z⟩
  rw [HT.sIx_nat] at h2
  omega)
theorem ev_slfrom {n : Nat} {m : Int} (h : Ev w ρ μ (.tup ds)) (hm : m = n) (h0 : 0 < n) (hl : n < ds.length) : Ev (dSl dSlG w (dPart (dC (.int m))) dNoPart) ρ μ (.tup (ds.drop n)) := fun Q z => h _ (by
  subst hm
  show dSlG (.tup ds) (some (n : Int)) none μ Q
  rw [e_slt, cutD_lo]
  refine ⟨fun ⟨h2, _⟩ => ?_, z⟩
  rw [HT.sIx_nat] at h2
  omega)
theorem ev_to1 (h : Ev w ρ μ (.tup ds)) (hl : 1 < ds.length) : Ev (dSl dSlG w dNoPart (dPart (dC (.int 1)))) ρ μ (.tup (ds.take 1)) := ev_slto h rfl hl
theorem ev_to2 (h : Ev w ρ μ (.tup ds)) (hl : 2 < ds.length) : Ev (dSl dSlG w dNoPart (dPart (dC (.int 2)))) ρ μ (.tup (ds.take 2)) := ev_slto h rfl hl
theorem ev_to3 (h : Ev w ρ μ (.tup ds)) (hl : 3 < ds.length) : Ev (dSl dSlG w dNoPart (dPart (dC (.int 3)))) ρ μ (.tup (ds.take 3)) := ev_slto h rfl hl
theorem ev_to4 (h : Ev w ρ μ (.tup ds)) (hl : 4 < ds.length) : Ev (dSl dSlG w dNoPart (dPart (dC (.int 4)))) ρ μ (.tup (ds.take 4)) := ev_slto h rfl hl
theorem ev_to5 (h : Ev w ρ μ (.tup ds)) (hl : 5 < ds.length) : Ev (dSl dSlG w dNoPart (dPart (dC (.int 5)))) ρ μ (.tup (ds.take 5)) := ev_slto h rfl hl
theorem ev_from1 (h : Ev w ρ μ (.tup ds)) (hl : 1 < ds.length) : Ev (dSl dSlG w (dPart (dC (.int 1))) dNoPart) ρ μ (.tup (ds.drop 1)) := ev_slfrom h rfl (by decide) hl
theorem ev_from2 (h : Ev w ρ μ (.tup ds)) (hl : 2 < ds.length) : Ev (dSl dSlG w (dPart (dC (.int 2))) dNoPart) ρ μ (.tup (ds.drop 2)) := ev_slfrom h rfl (by decide) hl
theorem ev_from3 (h : Ev w ρ μ (.tup ds)) (hl : 3 < ds.length) : Ev (dSl dSlG w (dPart (dC (.int 3))) dNoPart) ρ μ (.tup (ds.drop 3)) := ev_slfrom h rfl (by decide) hl
theorem ev_from4 (h : Ev w ρ μ (.tup ds)) (hl : 4 < ds.length) : Ev (dSl dSlG w (dPart (dC (.int 4))) dNoPart) ρ μ (.tup (ds.drop 4)) := ev_slfrom h rfl (by decide) hl
theorem ev_from5 (h : Ev w ρ μ (.tup ds)) (hl : 5 < ds.length) : Ev (dSl dSlG w (dPart (dC (.int 5))) dNoPart) ρ μ (.tup (ds.drop 5)) := ev_slfrom h rfl (by decide) hl
end
end L2

namespace L2
open PySem PySem.Spec PyProof.Rows
end L2

namespace L2
open PySem PySem.Spec PyProof.Rows
section
variable {K : PySem.W.Frag} {fl : Wd} {W : Wd}
end
section
variable {X : Cx} {o i e value : Expr} {pos pos' apos cpos : Pos} {td ty tv : TE}
end
section
variable {K : PySem.W.Frag} {fl : Wd}
end
end L2

namespace L2
open PySem PySem.Spec PyProof.Rows
section
variable {prog : Program} {w : World} {A : Around} {E : Value -> Shared -> Prop} {s : Shared}
end
section
variable {X : Cx} (K : PySem.W.Frag)
end
end L2

namespace L2
open PySem PySem.Spec PyProof.Rows
section
variable {P : Program} {w : World} {H : Hp} {h : Heap} {a : Addr} {u u' : HO}
end
section
variable {X : Cx} {pins : List (Addr × Obj)} {σ : St} {H : Hp} {s : Shared} {a : Addr} {u u' : HO}
end
section
variable {K : PySem.W.Frag} {fl : Wd} {tl : TE} {w : DE}
end
end L2

namespace L2
open PySem PySem.Spec PyProof.Rows
section
variable {prog : Program} {w : World} {A : Around} {E : Value -> Shared -> Prop} {s : Shared}
end
section
variable {X : Cx} {e ke : Expr} {lo hi : Option Expr} {te : TE} {tl th tk : TO} {p2 pos : Pos}
end
end L2

namespace L2
open PySem PySem.Spec PyProof.Rows
section
variable {X : Cx} {k : Nat} (K : PySem.W.Frag)
end
end L2

namespace L2
open PySem PySem.Spec PyProof.Rows
section
variable {X : Cx} {CX : CXT} {k : Nat} {f : Addr} {fd : FuncData} {ps : List Str} {sp : Sp} {ds : List Value} {dvs : List V} {E : XK}
end
end L2

namespace L2
open PySem PySem.Spec PyProof.Rows
section
variable {prog : Program} {w : World} {A : Around} {E : Value -> Shared -> Prop} {s : Shared}
end
end L2

namespace L2
open PySem PySem.Spec PyProof.Rows
end L2

namespace L2
open PySem PySem.Spec PyProof.Rows
section
variable {X : Cx} {pins : List (Addr × Obj)} {σ : St} {H : Hp} {s : Shared} {a : Addr} {y v : V} {u r : Value} {A : Around} {E : Value -> Shared -> Prop}
end
section
variable {X : Cx} {tg iter kx vx : Expr} {ifs : List Expr} {scope : Scope} {pos : Pos} {own free : List Str} {fr : List Nat}
end
section
variable {X : Cx} {tg iter kx vx : Expr} {ifs : List Expr} {scope : Scope} {pos : Pos} {wi : TI} {g : TG} {tc : TT} {tk tv : TE} {o0 : HO}
end
section
variable {K : PySem.W.Frag} {fl : Wd} {tk tv : TE} {wk wv : DE} {tc : TT} {wc : DT} {wi : TI} {di : DI} {g : TG} {dg : DG} {S : List Nat}
end
end L2

namespace L2
open PySem PySem.Spec PyProof.Rows
def two (a b : Int) : Nat := ((b - a + 1) / 2).toNat
section
variable {X : Cx} {tg : Expr}
end
end L2

namespace L2
open PySem PySem.Spec PyProof.Rows
end L2

namespace L2
open PySem PySem.Spec PyProof.Rows
section
variable {X : Cx} {CX : CXT} {k : Nat} {f : Addr} {fd : FuncData} {ps : List Str} {sp : Sp} {ds : List Value} {dvs : List V} {E : XK}
end
section
open PySem.Builtin PySem.Builtin.Str
end
end L2

namespace L2
open PySem PySem.Spec PyProof.Rows
section
variable {prog : Program} {w : World} {A : Around} {E : Value -> Shared -> Prop} {s : Shared} {b b1 b2 : Bool}
end
section
variable {wA : DA} {ρ : DEnv} {μ : Mu} {R : List D -> (Mu -> Prop) -> Mu -> Prop} {d e : D} {ds : List D} {Q : List D -> (Mu -> Prop) -> Prop}
end
end L2

namespace L2
open PySem PySem.Spec PyProof.Rows
section
variable {X : Cx} {pins : List (Addr × Obj)} {σ : St} {H : Hp} {s : Shared}
end
end L2

namespace L2
open PySem PySem.Spec PyProof.Rows
section
variable {prog : Program} {w : World} {A : Around} {E : Value -> Shared -> Prop} {s : Shared} {b : Bool}
end
end L2

namespace L2
open PySem PySem.Spec PyProof.Rows
section
variable {n : Nat} {lt : Nat -> Nat -> Bool}
structure Ord (lt : Nat -> Nat -> Bool) : Prop where
  as : ∀ a b, lt a b = true -> lt b a = false
  tr : ∀ a b c, lt b a = false -> lt c b = false -> lt c a = false
variable (O : Ord lt)
include O
end
end L2
namespace L2
open PySem PySem.Spec PyProof.Rows
section
variable {prog : Program} {w : World} {A : Around} {E : Value -> Shared -> Prop} {s : Shared} {κ : SortKind} {lt : Nat -> Nat -> Bool} {h0 : Heap}
end
end L2

namespace L2
open PySem PySem.Spec PyProof.Rows
end L2
namespace L2
open PySem PySem.Spec PyProof.Rows
section
variable {prog : Program} {w : World} {A : Around} {E : Value -> Shared -> Prop} {s : Shared}
end
section
variable {X : Cx} {pins : List (Addr × Obj)} {σ : St} {H : Hp} {s : Shared}
end
section
variable {X : Cx} (K : PySem.W.Frag)
end
end L2
namespace L2
open PySem PySem.Spec PyProof.Rows
section
variable {K : PySem.W.Frag} {W : Wd}
end
end L2
namespace L2
open PySem PySem.Spec PyProof.Rows
end L2

namespace L2
open PySem PySem.Spec PyProof.Rows
section
variable {K : PySem.W.Frag} {fl : Wd} {W : Wd}
end
end L2
namespace L2
open PySem PySem.Spec PyProof.Rows
section
variable {K : PySem.W.Frag} {fl : Wd} {t : TA} {tv : TE} {w : DA} {wv : DE} {tc : TT} {wc : DT} {wi : TI} {di : DI} {g : TG} {dg : DG} {S : List Nat}
end
end L2

namespace L2
open PySem PySem.Spec PyProof.Rows
section
variable {prog : Program} {w : World} {A : Around} {R : Result -> Shared -> Prop} {I : Addr} {fp wr : List Addr} {n : Nat} {P : Nat -> Value -> Prop} {St : Nat -> Heap -> Prop} {h0 : Heap}
end
section
variable {prog : Program} {w : World} {A : Around} {E : Value -> Shared -> Prop} {s : Shared}
end
end L2

namespace L2
open PySem PySem.Spec PyProof.Rows
section
variable {X : Cx} (K : PySem.W.Frag)
end
end L2

namespace L2
open PySem PySem.Spec PyProof.Rows
end L2

namespace L2
open PySem PySem.Spec PyProof.Rows
theorem ObjOk.there {P : Program} {w : World} {H : Hp} {h : Heap} {a : Addr} {o : HO} (x : ObjOk P w H h a o) : ∃ u, h.get? a = some u := by
  cases o with
  | lst xs => obtain ⟨_, _, _, _, e⟩ := x; exact ⟨_, e⟩
  | tup xs => obtain ⟨_, _, _, o, e, _⟩ := x; exact ⟨_, e⟩
  | dK kvs => obtain ⟨_, _, _, _, o, _, _, e, _⟩ := x; exact ⟨_, e⟩
  | dT kvs => obtain ⟨_, _, _, _, o, _, _, e, _⟩ := x; exact ⟨_, e⟩
  | set S n => obtain ⟨o, _, _, _, e, _⟩ := x; exact ⟨_, e⟩
  | ins C dx fs => obtain ⟨_, _, _, e, _⟩ := x; exact ⟨_, e⟩
  | own y => obtain ⟨_, e⟩ := x; exact ⟨_, e⟩
  | xd fs => obtain ⟨_, ⟨_, _, _, e, _⟩, _⟩ := x; exact ⟨_, e⟩
  | rng lo hi => obtain ⟨_, _, _, e⟩ := x; exact ⟨_, e⟩
  | frz ob u => obtain ⟨e, _⟩ := x; exact ⟨_, e⟩
  | tbl ps => exact ⟨_, (show h.get? a = some _ from x)⟩
  | met f y => exact ⟨_, (show h.get? a = some _ from x)⟩
  | ext φ => obtain ⟨_, ⟨_, e⟩, _⟩ := x; exact ⟨_, e⟩
theorem HOk.keptT {P : Program} {w : World} {H : Hp} {h h' : Heap} (x : HOk P w H h) (k : ∀ b u, H b ≠ none -> h.get? b = some u -> h'.get? b = some u) : HOk P w H h' := fun a o e =>
  (x a o e).stay (fun b u hb q => k b u (hb.elim (fun z => by rw [z, e]; simp) fun z => by rw [z]; simp) q) (fun _ q => q) fun _ _ q => q
theorem note_run {M : Model} {A : Around} {E : Value -> Shared -> Prop} {s : Shared} {base : Heap} {env : Env} {outer : List Env} {L e : Addr} {oe : Obj} {vs : Array Value} {hd : Value} {Q : Unit -> Shared -> Prop}
    (hfr : A.frames = some (env :: outer)) (hL : env.frame = some L) (ff : s.heap.FunFrames base (env :: outer)) (he : s.heap.get? e = some oe) (hv : oe.data = .fields vs) (h1 : vs[1]? = some hd)
    (hhd : hd = .none \/ ∃ T oT ts f3, hd = .ref T /\ T ≠ e /\ s.heap.get? T = some oT /\ oT.data = .fields ts /\ ts[3]? = some f3 /\ (f3 == rawInt L) = false)
    (k : ∀ (h' : Heap) (tb : Addr), h'.get? e = some (Obj.mapFields (fun x => x.setIfInBounds 1 (.ref tb)) oe) -> tb ≠ e -> (∃ ts, h'.get? tb = some { cls := .type "traceback", data := .fields ts } /\ ts[3]? = some (rawInt L)) -> s.heap.get? tb = none ->
      (∀ b o, b ∉ frs (env :: outer) -> b ≠ e -> hd ≠ .ref b -> s.heap.get? b = some o -> h'.get? b = some o) -> (∀ b o, b ∈ frs (env :: outer) -> s.heap.get? b = some o -> ∃ sl, h'.get? b = some { o with slots := sl }) -> Q () { s with heap := h' }) :
    wpAny M A (noteFrame (.ref e) env) Q E s := by
  have nfe : e ∉ frs (env :: outer) := fun z => by
    obtain ⟨_, o, ho, nf⟩ := ff.mem (b := e) z
    rw [he] at ho; cases ho
    exact nf vs hv
  have main : ∀ (g : Heap), g.objs.size = s.heap.objs.size -> g.FunFrames base (env :: outer) -> g.get? e = some oe -> (∀ b o, b ≠ e -> hd ≠ .ref b -> s.heap.get? b = some o -> g.get? b = some o) ->
      (∀ b o, b ∈ frs (env :: outer) -> s.heap.get? b = some o -> g.get? b = some o) -> (∀ b, s.heap.get? b = none -> g.get? b = none) ->
      ∀ hn, wpAny M A (do
        let a <- PySem.frameOf env
        let pl <- entryPlaceOf L hn
        let b <- EntryCells.newEntry hd a Value.none (rawInt L) Value.none pl
        setField (.ref e) 1 b) Q E { s with heap := g } := fun g sz fg eg kg kf ng hn => by
    refine wpAny_bind (wpAny_frameOf_fun hfr fg hL fun h2 so => ?_)
    refine wpAny_bind (wpAny_entryPlaceOf fun pl hp => ?_)
    unfold EntryCells.newEntry newFields
    obtain ⟨so1, so2, so3⟩ := so
    have e2 : h2.get? e = some oe := by rw [so2 e nfe]; exact eg
    have hsz0 : sizeOk (Data.fields ([hd, Value.ref L, Value.none, rawInt L, Value.none] ++ if pl.isEmpty = true then List.replicate 6 Value.none else pl).toArray) := by
      rcases hp with rfl | ⟨_, _, _, _, _, _, _, rfl⟩
      . show 11 <= sizeLine + 2; decide
      . show 11 <= sizeLine + 2; decide
    refine wpAny_bind (wpAny_newObj_type ?_ hsz0)
    have hvs : 1 < vs.size := by
      rcases Nat.lt_or_ge 1 vs.size with z | z
      . exact z
      . rw [Array.getElem?_eq_none z] at h1; cases h1
    have htb : h2.objs.size = s.heap.objs.size := so1.trans sz
    have hne : h2.objs.size ≠ e := fun z => absurd (Heap.lt_size e2) (by rw [z]; exact Nat.lt_irrefl _)
    refine wpAny_setField (Heap.get?_push_of_some _ e2) hv hvs ?_
    refine k _ h2.objs.size ?_ hne ⟨([hd, Value.ref L, Value.none, rawInt L, Value.none] ++ if pl.isEmpty = true then List.replicate 6 Value.none else pl).toArray, ?_, ?_⟩ (Heap.get?_none_of_le (Nat.le_of_eq htb.symm)) (fun b o hb h1 h2' q => ?_) (fun b o hb q => ?_)
    . exact Heap.get?_update_self _ (Heap.get?_push_of_some _ e2) (by
        obtain ⟨c, d, dt, sl⟩ := oe
        have hv' : dt = .fields vs := hv
        subst hv'
        rfl)
    . rw [Heap.get?_update_other _ _ (Ne.symm hne)]
      exact Heap.get?_push_size _ rfl
    . rfl
    . rw [Heap.get?_update_other _ _ (Ne.symm h1)]
      exact Heap.get?_push_of_some _ (by rw [so2 b hb]; exact kg b o h1 h2' q)
    . have hbe : b ≠ e := fun z => nfe (z ▸ hb)
      obtain ⟨sl, q2⟩ := so3 b o (kf b o hb q)
      exact ⟨sl, by rw [Heap.get?_update_other _ _ (Ne.symm hbe)]; exact Heap.get?_push_of_some _ q2⟩
  unfold noteFrame
  rw [hL]
  refine wpAny_bind (wpAny_field he hv h1 ?_)
  rcases hhd with rfl | ⟨T, oT, ts, f3, rfl, hTe, hT, hTd, h3, hf3⟩
  . exact main s.heap rfl ff he (fun b o _ _ q => q) (fun b o _ q => q) (fun b q => q) _
  . refine (show wpAny M A (do
        let h3 <- field (.ref T) 3
        if (h3 == rawInt L) = true then pure () else do
          let _ <- setField (.ref T) 3 .none
          (do
            let a <- PySem.frameOf env
            let pl <- entryPlaceOf L true
            let b <- EntryCells.newEntry (.ref T) a Value.none (rawInt L) Value.none pl
            setField (.ref e) 1 b)) Q E s from ?_)
    refine wpAny_bind (wpAny_field hT hTd h3 ?_)
    rw [if_neg (by rw [hf3]; decide)]
    have hsz : 3 < ts.size := by
      rcases Nat.lt_or_ge 3 ts.size with z | z
      . exact z
      . rw [Array.getElem?_eq_none z] at h3; cases h3
    have nfT : T ∉ frs (env :: outer) := fun z => by
      obtain ⟨_, o, ho, nf⟩ := ff.mem (b := T) z
      rw [hT] at ho; cases ho
      exact nf ts hTd
    refine wpAny_bind (wpAny_setField hT hTd hsz ?_)
    refine main _ (Heap.size_update _ _ _) ?_ (by rw [Heap.get?_update_other _ _ hTe]; exact he) (fun b o _ hb q => ?_) (fun b o hb q => ?_) (fun b q => ?_) _
    . refine ff.of_keeps fun b o q nf => ⟨o, ?_, rfl⟩
      refine Heap.get?_update_of_ne _ (fun z => ?_) q
      subst z; rw [hT] at q; cases q; exact nf ts hTd
    . exact Heap.get?_update_of_ne _ (fun z => hb (by rw [z])) q
    . exact Heap.get?_update_of_ne _ (fun z => nfT (z ▸ hb)) q
    . rw [Heap.get?_update_other _ _ (fun z => by subst z; rw [hT] at q; cases q)]; exact q
def Fly (g : Heap) (H : Hp) (h : Heap) (e C : Addr) (dx : Option Addr) (f3 : Value) : Prop :=
  ∃ oe vs T oT ts, h.get? e = some oe /\ oe.cls = .ref C /\ oe.dict = dx /\ oe.data = .fields vs /\ vs[1]? = some (.ref T) /\ T ≠ e /\ h.get? T = some oT /\ oT.data = .fields ts /\ ts[3]? = some f3 /\ H e = none /\ H T = none /\ g.get? e = none /\ g.get? T = none
def Made (g : Heap) (H : Hp) (h : Heap) (e C : Addr) (dx : Option Addr) : Prop :=
  ∃ oe vs, h.get? e = some oe /\ oe.cls = .ref C /\ oe.dict = dx /\ oe.data = .fields vs /\ vs[1]? = some .none /\ H e = none /\ g.get? e = none
structure Stays (g : Heap) (H : Hp) (fs : List Addr) (h h' : Heap) : Prop where
  keep : ∀ b o, h.get? b = some o -> b ∉ fs -> (H b ≠ none \/ g.get? b ≠ none) -> h'.get? b = some o
  slot : ∀ b o, h.get? b = some o -> b ∈ fs -> ∃ sl, h'.get? b = some { o with slots := sl }
theorem Stays.trans {g : Heap} {H : Hp} {fs : List Addr} {h h1 h2 : Heap} (a : Stays g H fs h h1) (b : Stays g H fs h1 h2) : Stays g H fs h h2 := ⟨fun c o e n t => b.keep c o (a.keep c o e n t) n t, fun c o e n => by
  obtain ⟨sl, e1⟩ := a.slot c o e n
  obtain ⟨sl2, e2⟩ := b.slot c _ e1 n
  exact ⟨sl2, e2⟩⟩
theorem Stays.hok {P : Program} {w : World} {g : Heap} {H : Hp} {fs : List Addr} {h h' : Heap} (k : Stays g H fs h h') (hf : ∀ b ∈ fs, H b = none) (x : HOk P w H h) : HOk P w H h' :=
  x.keptT fun b u hb q => k.keep b u q (fun z => hb (hf b z)) (.inl hb)
theorem mapF {f : Array Value -> Array Value} {o : Obj} {vs : Array Value} (h : o.data = .fields vs) : (Obj.mapFields f o).cls = o.cls /\ (Obj.mapFields f o).dict = o.dict /\ (Obj.mapFields f o).data = .fields (f vs) /\ (Obj.mapFields f o).isFreed = false := by
  obtain ⟨c, d, dt, sl⟩ := o
  have h' : dt = .fields vs := h
  subst h'
  exact ⟨rfl, rfl, rfl, rfl⟩
theorem set_at {vs : Array Value} {i : Nat} {x y : Value} (h : vs[i]? = some y) : (vs.setIfInBounds i x)[i]? = some x := by
  have hi : i < vs.size := by
    rcases Nat.lt_or_ge i vs.size with z | z
    . exact z
    . rw [Array.getElem?_eq_none z] at h; cases h
  rw [Array.getElem?_setIfInBounds_self_of_lt hi]
section
variable {P : Program} {w : World} {M : Model} {A : Around} {E : Value -> Shared -> Prop} {s : Shared} {base g : Heap} {env : Env} {outer : List Env} {L e C : Addr} {dx : Option Addr} {H : Hp} {f3 : Value}
theorem note_fly {oe : Obj} {vs : Array Value} {hd : Value} {Q : Unit -> Shared -> Prop} (hfr : A.frames = some (env :: outer)) (hL : env.frame = some L) (ff : s.heap.FunFrames base (env :: outer)) (hok : HOk P w H s.heap) (hg : ∀ b, s.heap.get? b = none -> g.get? b = none)
    (he : s.heap.get? e = some oe) (hc : oe.cls = .ref C) (hd' : oe.dict = dx) (hv : oe.data = .fields vs) (h1 : vs[1]? = some hd) (hHe : H e = none) (hge : g.get? e = none)
    (hhd : hd = .none \/ ∃ T oT ts f3, hd = .ref T /\ T ≠ e /\ s.heap.get? T = some oT /\ oT.data = .fields ts /\ ts[3]? = some f3 /\ (f3 == rawInt L) = false /\ H T = none /\ g.get? T = none)
    (k : ∀ h', Fly g H h' e C dx (rawInt L) -> Stays g H (frs (env :: outer)) s.heap h' -> Q () { s with heap := h' }) : wpAny M A (noteFrame (.ref e) env) Q E s := by
  refine note_run hfr hL ff he hv h1 (hhd.imp_right fun ⟨T, oT, ts, f3, a, b, c, d, f, f', _, _⟩ => ⟨T, oT, ts, f3, a, b, c, d, f, f'⟩) fun h' tb e1 ne ⟨ts', t1, t2⟩ tn kp sl => ?_
  obtain ⟨m1, m2, m3, _⟩ := mapF (f := fun x => x.setIfInBounds 1 (.ref tb)) hv
  have hT : H tb = none := by
    cases r : H tb with
    | none => rfl
    | some o => obtain ⟨u, hu⟩ := (hok tb o r).there; rw [tn] at hu; cases hu
  refine k h' ⟨_, _, tb, _, ts', e1, m1.trans hc, m2.trans hd', m3, set_at h1, ne, t1, rfl, t2, hHe, hT, hge, hg tb tn⟩ ⟨fun b o q hb hn => kp b o hb (fun z => ?_) (fun z => ?_) q, fun b o q hb => sl b o hb q⟩
  . subst z
    rcases hn with n | n
    . exact n hHe
    . exact n hge
  . rcases hhd with h0 | ⟨T, oT, ts, f3, h0, _, _, _, _, _, n1, n2⟩
    . rw [h0] at z; cases z
    . rw [h0] at z; cases z
      rcases hn with n | n
      . exact n n1
      . exact n n2
theorem fly_note {Q : Unit -> Shared -> Prop} (hfr : A.frames = some (env :: outer)) (hL : env.frame = some L) (ff : s.heap.FunFrames base (env :: outer)) (hok : HOk P w H s.heap) (hg : ∀ b, s.heap.get? b = none -> g.get? b = none) (F : Fly g H s.heap e C dx .none)
    (k : ∀ h', Fly g H h' e C dx (rawInt L) -> Stays g H (frs (env :: outer)) s.heap h' -> Q () { s with heap := h' }) : wpAny M A (noteFrame (.ref e) env) Q E s := by
  obtain ⟨oe, vs, T, oT, ts, h1, h2, h3, h4, h5, h6, h7, h8, h9, h10, h11, h12, h13⟩ := F
  exact note_fly (P := P) (w := w) hfr hL ff hok hg h1 h2 h3 h4 h5 h10 h12 (.inr ⟨T, oT, ts, _, rfl, h6, h7, h8, h9, rfl, h11, h13⟩) k
theorem fly_set {Q : Unit -> Shared -> Prop} {l : List Env} (ff : s.heap.FunFrames base l) (F : Fly g H s.heap e C dx f3)
    (k : ∀ h', Fly g H h' e C dx .none -> Stays g H (frs l) s.heap h' -> (∀ b, s.heap.get? b = none -> h'.get? b = none) -> h'.FunFrames base l -> Q () { s with heap := h' }) : wpAny M A (setFlight (.ref e) none) Q E s := by
  obtain ⟨oe, vs, T, oT, ts, h1, h2, h3, h4, h5, h6, h7, h8, h9, h10, h11, h12, h13⟩ := F
  have hsz : 3 < ts.size := by
    rcases Nat.lt_or_ge 3 ts.size with z | z
    . exact z
    . rw [Array.getElem?_eq_none z] at h9; cases h9
  obtain ⟨m1, m2, m3, m4⟩ := mapF (f := fun x => x.setIfInBounds 3 .none) h8
  refine wpAny_setFlight_none h1 h4 h5 h7 h8 hsz (k _ ⟨oe, vs, T, _, _, ?_, h2, h3, h4, h5, h6, Heap.get?_update_self _ h7 m4, m3, set_at h9, h10, h11, h12, h13⟩ ⟨fun b o q hb hn => ?_, fun b o q hb => ?_⟩ (fun b q => ?_) ?_)
  . rw [Heap.get?_update_other _ _ h6]; exact h1
  . refine Heap.get?_update_of_ne _ (fun z => ?_) q
    subst z
    rcases hn with n | n
    . exact n h11
    . exact n h13
  . obtain ⟨_, o2, ho2, nf⟩ := ff.mem (b := b) hb
    refine ⟨o.slots, Heap.get?_update_of_ne _ (fun z => ?_) q⟩
    subst z; rw [h7] at ho2; cases ho2; exact nf ts h8
  . rw [Heap.get?_update_other _ _ (fun z => by subst z; rw [h7] at q; cases q)]; exact q
  . refine ff.of_keeps fun b o q nf => ⟨o, Heap.get?_update_of_ne _ (fun z => ?_) q, rfl⟩
    subst z; rw [h7] at q; cases q; exact nf ts h8
theorem Stays.ff {l : List Env} {h h' : Heap} (k : Stays g H (frs l) h h') (ff : h.FunFrames base l) : h'.FunFrames base l := by
  have all : ∀ l' : List Env, (∀ b ∈ frs l', b ∈ frs l) -> h.FunFrames base l' -> h'.FunFrames base l' := by
    intro l'
    induction l' with
    | nil => intro _ _; trivial
    | cons env r ih =>
      intro hs hl
      obtain ⟨hk, ⟨L, o, hf, hn, ho, hd⟩, hr⟩ := hl
      have hL : L ∈ frs l := hs L (by unfold frs; rw [List.filterMap_cons, hf]; exact List.mem_cons_self)
      obtain ⟨sl, e⟩ := k.slot L o ho hL
      exact ⟨hk, ⟨L, _, hf, hn, e, hd⟩, ih (fun b hb => hs b (by unfold frs; rw [List.filterMap_cons, hf]; exact List.mem_cons_of_mem _ hb)) hr⟩
  exact all l (fun _ h => h) ff
theorem fly_leave {Q : Unit -> Shared -> Prop} (hfr : A.frames = some (env :: outer)) (hL : env.frame = some L) (ff : s.heap.FunFrames base (env :: outer)) (hok : HOk P w H s.heap) (hg : ∀ b, s.heap.get? b = none -> g.get? b = none) (F : Fly g H s.heap e C dx .none)
    (k : ∀ h', Fly g H h' e C dx .none -> Stays g H (frs (env :: outer)) s.heap h' -> Q () { s with heap := h' }) : wpAny M A (leaving env (.ref e)) Q E s := by
  unfold leaving
  refine wpAny_bind (fly_note (P := P) (w := w) hfr hL ff hok hg F fun h1 F1 S1 => ?_)
  exact fly_set (S1.ff ff) F1 fun h2 F2 S2 _ _ => k h2 F2 (S1.trans S2)
theorem made_leave {Q : Unit -> Shared -> Prop} (hfr : A.frames = some (env :: outer)) (hL : env.frame = some L) (ff : s.heap.FunFrames base (env :: outer)) (hok : HOk P w H s.heap) (hg : ∀ b, s.heap.get? b = none -> g.get? b = none) (F : Made g H s.heap e C dx)
    (k : ∀ h', Fly g H h' e C dx .none -> Stays g H (frs (env :: outer)) s.heap h' -> Q () { s with heap := h' }) : wpAny M A (leaving env (.ref e)) Q E s := by
  obtain ⟨oe, vs, h1, h2, h3, h4, h5, h6, h7⟩ := F
  unfold leaving
  refine wpAny_bind (note_fly (P := P) (w := w) hfr hL ff hok hg h1 h2 h3 h4 h5 h6 h7 (.inl rfl) fun h1 F1 S1 => ?_)
  exact fly_set (S1.ff ff) F1 fun h2 F2 S2 _ _ => k h2 F2 (S1.trans S2)
theorem fly_leaveA {Q : Unit -> Shared -> Prop} (hfr : A.frames = some (env :: outer)) (hL : env.frame = some L) (ff : s.heap.FunFrames base (env :: outer)) (hok : HOk P w H s.heap) (hg : ∀ b, s.heap.get? b = none -> g.get? b = none) (F : Fly g H s.heap e C dx f3)
    (k : ∀ h', Fly g H h' e C dx .none -> Stays g H (frs (env :: outer)) s.heap h' -> Q () { s with heap := h' }) : wpAny M A (leaving env (.ref e)) Q E s := by
  obtain ⟨oe, vs, T, oT, ts, h1, h2, h3, h4, h5, h6, h7, h8, h9, h10, h11, h12, h13⟩ := id F
  unfold leaving
  cases hf : f3 == rawInt L with
  | false => exact wpAny_bind (note_fly (P := P) (w := w) hfr hL ff hok hg h1 h2 h3 h4 h5 h10 h12 (.inr ⟨T, oT, ts, _, rfl, h6, h7, h8, h9, hf, h11, h13⟩) fun h1 F1 S1 => fly_set (S1.ff ff) F1 fun h2 F2 S2 _ _ => k h2 F2 (S1.trans S2))
  | true =>
    refine wpAny_bind ?_
    unfold noteFrame
    rw [hL]
    refine wpAny_bind (wpAny_field h1 h4 h5 ?_)
    refine (show wpAny M A (do
        let h3 <- field (.ref T) 3
        if (h3 == rawInt L) = true then pure () else do
          let _ <- setField (.ref T) 3 .none
          (do
            let a <- PySem.frameOf env
            let pl <- entryPlaceOf L true
            let b <- EntryCells.newEntry (.ref T) a Value.none (rawInt L) Value.none pl
            setField (.ref e) 1 b)) _ E s from ?_)
    refine wpAny_bind (wpAny_field h7 h8 h9 ?_)
    rw [if_pos hf]
    exact wpAny_pure (fly_set ff F fun h2 F2 S2 _ _ => k h2 F2 S2)
theorem fly_mark {Q : Unit -> Shared -> Prop} {l : List Env} {fo : Option Addr} (ff : s.heap.FunFrames base l) (F : Fly g H s.heap e C dx f3)
    (k : ∀ h' f', Fly g H h' e C dx f' -> Stays g H (frs l) s.heap h' -> Q () { s with heap := h' }) : wpAny M A (setFlight (.ref e) fo) Q E s := by
  obtain ⟨oe, vs, T, oT, ts, h1, h2, h3, h4, h5, h6, h7, h8, h9, h10, h11, h12, h13⟩ := F
  have hsz : 3 < ts.size := by
    rcases Nat.lt_or_ge 3 ts.size with z | z
    . exact z
    . rw [Array.getElem?_eq_none z] at h9; cases h9
  unfold setFlight
  refine wpAny_bind (wpAny_field h1 h4 h5 ?_)
  refine (show wpAny M A (setField (.ref T) 3 (fo.elim .none fun f => rawInt f)) Q E s from ?_)
  refine wpAny_setField h7 h8 hsz ?_
  obtain ⟨m1, m2, m3, m4⟩ := mapF (f := fun x => x.setIfInBounds 3 (fo.elim .none fun f => rawInt f)) h8
  refine k _ _ ⟨oe, vs, T, _, _, ?_, h2, h3, h4, h5, h6, Heap.get?_update_self _ h7 m4, m3, set_at h9, h10, h11, h12, h13⟩ ⟨fun b o q hb hn => ?_, fun b o q hb => ?_⟩
  . rw [Heap.get?_update_other _ _ h6]; exact h1
  . refine Heap.get?_update_of_ne _ (fun z => ?_) q
    subst z
    rcases hn with n | n
    . exact n h11
    . exact n h13
  . obtain ⟨_, o2, ho2, nf⟩ := ff.mem (b := b) hb
    refine ⟨o.slots, Heap.get?_update_of_ne _ (fun z => ?_) q⟩
    subst z; rw [h7] at ho2; cases ho2; exact nf ts h8
end
theorem exc_class {prog : Program} {w : World} {A : Around} {E : Value -> Shared -> Prop} {s : Shared} {K : W.Frag} {x D : Addr} {ox : Obj} {odo : Option Obj} {Q : Option Value -> Shared -> Prop} (KX : K.In s.heap) (J : W.InstAt s.heap x ox D odo)
    (hga : W.findIn K (.ref D) "__getattribute__" = some (some (.builtin "BaseException.__getattribute__"))) (hgh : W.findIn K (.ref D) "__getattr__" = some none)
    (hb : W.mroIn K D (.type "BaseException") = some true) (ho : W.mroIn K D (.type "object") = some true)
    (hf : W.findObj K D odo "__class__" = some (.bind (.builtin "getset_descriptor.__get__") (.builtin "object.__class__")))
    (q : Q (some (.ref D)) { s with toks := s.toks + 1 }) : wpAny (model prog w) A (getAttr? (.ref x) "__class__") Q E s := by
  unfold getAttr?
  refine wpAny_bind (wpAny_mkText ?_)
  unfold getAttrBy?
  refine wpAny_bind (wpAny_attempt ?_)
  unfold getAttrBy
  refine wpAny_holding (wpAny_bind (J.type.at ?_))
  refine wpAny_bind ((W.looks_findIn KX hga).at ?_)
  refine (show wpAny (model prog w) A (getAttrByItsOwn (.ref x) (.str "__class__" s.toks) (.ref D) (.builtin "BaseException.__getattribute__") false false) _ _ _ from ?_)
  unfold getAttrByItsOwn
  refine wpAny_bind ((W.looks_findIn KX hgh).at ?_)
  refine wpAny_bind (wpAny_attempt (wpAny_holding ?_))
  refine (show wpAny (model prog w) A (boundAndCalled (.builtin "BaseException.__getattribute__") (.ref x) (.str "__class__" s.toks)) _ _ _ from ?_)
  unfold boundAndCalled
  rw [F.excAttr_ValueError.ga.bind]
  refine wpAny_bind (wpAny_pure ?_)
  refine wpAny_call (codeAny_call_builtin (by decide +kernel) F.entry_bexc_ga ?_)
  have hck : ∀ {A : Around} {Q : Unit -> Shared -> Prop} {E : Value -> Shared -> Prop} {tk : Nat}, Q () { s with toks := tk } -> wpAny (model prog w) A (checkBuiltinCall "BaseException.__getattribute__" ⟨[.ref x, .str "__class__" s.toks], []⟩) Q E { s with toks := tk } := by
    intro A Q E tk hq
    refine (show wpAny (model prog w) A (isInstance (.ref x) (.type "BaseException") >>= _) _ _ _ from ?_)
    refine wpAny_bind ?_
    unfold isInstance
    refine wpAny_bind (J.type.at ((W.looks_mroIn KX hb).at ?_))
    have e : (match Manifest.signature? "BaseException.__getattribute__" with
      | some sig => Bind.checkArgs "BaseException.__getattribute__" sig ⟨[.ref x, .str "__class__" s.toks], []⟩
      | none => pure ()) = pure () := F.args_bexc_ga (.ref x) (.str "__class__" s.toks)
    refine (show wpAny (model prog w) A (match Manifest.signature? "BaseException.__getattribute__" with
      | some sig => Bind.checkArgs "BaseException.__getattribute__" sig ⟨[.ref x, .str "__class__" s.toks], []⟩
      | none => pure ()) _ _ _ from ?_)
    rw [e]
    exact wpAny_pure hq
  refine hck ?_
  unfold Builtin.«object.__getattribute__»
  refine wpAny_bind (show wpAny _ _ (pure (Value.ref x, [Value.str "__class__" s.toks])) _ _ _ from wpAny_pure ?_)
  refine wpAny_bind (show wpAny _ _ (pure ("__class__" : Str)) _ _ _ from wpAny_pure ?_)
  refine wpAny_bind (J.type.at (wpAny_bind ((W.looks_find KX J hf).at ?_)))
  unfold Builtin.ObjectAttr.bindTo
  refine (show wpAny (model prog w) A.in1 (holding [Value.builtin "object.__class__"] (call (Value.builtin "getset_descriptor.__get__") [Value.builtin "object.__class__", .ref x, .ref D]) >>= fun v => ret v) _ _ _ from ?_)
  refine wpAny_bind (wpAny_holding (wpAny_call (W.class_get KX J ho ?_)))
  refine (show wpAny (model prog w) A.in1 (pure _) _ _ _ from wpAny_pure ?_)
  refine (show wpAny (model prog w) A (handedOut (Value.ref D)) _ _ _ from ?_)
  rw [W.handedOut_of rfl]
  exact wpAny_pure (wpAny_pure q)
structure ExcC (K : W.Frag) (D : Addr) : Prop where
  ga : W.findIn K (.ref D) "__getattribute__" = some (some (.builtin "BaseException.__getattribute__"))
  gh : W.findIn K (.ref D) "__getattr__" = some none
  hb : W.mroIn K D (.type "BaseException") = some true
  ho : W.mroIn K D (.type "object") = some true
  fc : W.findIn K (.ref D) "__class__" = some (some (.builtin "object.__class__"))
  sp : W.specialIn K (.builtin "object.__class__") "__get__" = some (some (.builtin "getset_descriptor.__get__"))
  tk : W.takesIn K (.builtin "object.__class__") = some true
  hk : W.kitCls K (.ref D) (.ref D) = some true
theorem ExcC.cls {K : W.Frag} {D : Addr} (c : ExcC K D) : ∃ cd, W.clsIn K D = some cd := by
  have h := c.hk
  unfold W.kitCls at h
  cases e : W.clsIn K D with
  | some cd => exact ⟨cd, rfl⟩
  | none => simp [e] at h
theorem ExcC.find {K : W.Frag} {D : Addr} (c : ExcC K D) (od : Option Obj) : W.findObj K D od "__class__" = some (.bind (.builtin "getset_descriptor.__get__") (.builtin "object.__class__")) := by
  obtain ⟨cd, e⟩ := c.cls
  unfold W.findObj
  rw [e]
  simp only [Option.bind_some]
  rw [show W.findIn K (Value.ref D) (Str.ofString "__class__") = _ from c.fc]
  simp only [Option.bind_some]
  rw [show W.specialIn K (.builtin "object.__class__") (Str.ofString "__get__") = _ from c.sp]
  simp only [Option.bind_some]
  rw [c.tk]
  rfl
theorem ExcC.kit {K : W.Frag} {x D : Addr} {ox : Obj} {od : Option Obj} (c : ExcC K D) : W.KitX K (.ref x) (.ref D) (fun h => W.InstAt h x ox D od) where
  ty := fun M h KX J => J.type
  it := fun M h KX J => (W.kit_cls KX c.hk).2.1
  ne := fun h tp dd its n sl KX hh => by
    obtain ⟨cd, e⟩ := c.cls
    unfold W.clsIn at e
    split at e
    . rename_i q
      have := KX _ _ q
      refine beq_eq_false_iff_ne.mpr fun z => ?_
      cases z
      rw [hh] at this; cases this
    . cases e
  ca := fun KX J q => exc_class KX J c.ga c.gh c.hb c.ho (c.find od) q
end L2

namespace L2
open PySem PySem.Spec PyProof.Rows
theorem excObj_of {K : W.Frag} {h : Heap} {C : Addr} {bmB : List Value} {newId : String} (KX : K.In h) (e : W.excIn K C bmB newId = true) :
    ∃ bm N nm q bs hdct sn sub ab col dd k0 k1 k2 k3 k5 mN, h.get? C = some (excClassObj nm q C N bs bm hdct sn sub ab col dd k0 k1 k2 k3 k5 newId) /\ h.Ns N mN /\ mN "__init__" = none /\ OwnTail h bmB bm := by
  unfold W.excIn at e
  split at e
  . rename_i dict cd sl hl
    split at e
    . rename_i C' bm k0 k1 k2 k3 n k5 hm hs
      simp only [Bool.and_eq_true, beq_iff_eq, Bool.not_eq_true'] at e
      obtain ⟨⟨⟨⟨⟨e1, e2⟩, e3⟩, e4⟩, e5⟩, e6⟩ := e
      subst e1
      subst e2
      obtain ⟨nm, bs, mro, ns, qn, hdct, sn, sub, ab, col, hdel⟩ := cd
      have hm' : mro = .ref C' :: bm := hm
      have e3' : hdel = false := e3
      subst hm'; subst e3'
      have hsl : sl = #[k0, k1, k2, k3, some (.builtin n), k5] := by
        have := congrArg List.toArray hs
        simpa using this
      subst hsl
      refine ⟨bm, ns, nm, qn, bs, hdct, sn, sub, ab, col, dict, k0, k1, k2, k3, k5, h.nsMap ns, KX _ _ hl, ?_, W.nsMap_none_of_in KX e5 e6, W.tail_of_in KX e4⟩
      have := W.isNs_of_in KX e5
      exact Heap.Ns.of_isNs this
    . cases e
  . cases e

def CX1 (P : Program) (w : World) : CXT := fun outer H s E e s' => ∃ a C dx H', e = .ref a /\ s'.os = s.os /\ AllBare s'.gens /\ Un (frs outer) [] H H' s.heap s'.heap /\ HOk P w H' s'.heap /\ Fly s.heap H' s'.heap a C dx .none /\ E (.ref C) dx H'
theorem Fly.old {g g' : Heap} {H : Hp} {h : Heap} {e C : Addr} {dx : Option Addr} {f3 : Value} (F : Fly g H h e C dx f3) (k : ∀ b, g.get? b = none -> g'.get? b = none) : Fly g' H h e C dx f3 := by
  obtain ⟨oe, vs, T, oT, ts, h1, h2, h3, h4, h5, h6, h7, h8, h9, h10, h11, h12, h13⟩ := F
  exact ⟨oe, vs, T, oT, ts, h1, h2, h3, h4, h5, h6, h7, h8, h9, h10, h11, k _ h12, k _ h13⟩
structure Fr0 (X : Cx) (pins : List (Addr × Obj)) (g : Heap) : Prop where
  loc : g.get? X.env.locals ≠ none
  cell : ∀ x c, X.env.cells.lookup x = some c -> g.get? c ≠ none
  pin : ∀ p ∈ X.pn ++ pins, g.get? p.1 ≠ none
  old : ∀ b o, X.s₀.heap.get? b = some o -> g.get? b ≠ none
section
variable {X : Cx} {pins : List (Addr × Obj)} {σ : St} {H : Hp} {s : Shared} {g h' : Heap}
theorem Inv.fr0 (I : Inv X pins σ H s) (hx : ∀ b ∈ X.ex, ∃ o, (b, o) ∈ X.pn) : Fr0 X pins s.heap where
  loc := by obtain ⟨m, ⟨o, es, ep, ho, _⟩, _⟩ := I.loc; rw [ho]; simp
  cell := fun x c e => by obtain ⟨v, o, ho, _⟩ := I.cell x c e; rw [ho]; simp
  pin := fun p hp => by rw [(I.pin p hp).1]; simp
  old := fun b o e => by
    by_cases hb : b ∈ X.ex
    . obtain ⟨o', ho⟩ := hx b hb
      rw [(I.pin (b, o') (List.mem_append_left _ ho)).1]; simp
    . obtain ⟨o', e'⟩ := I.base.there b o e hb; rw [e']; simp
theorem Fr0.none (F0 : Fr0 X pins g) : ∀ b, g.get? b = none -> X.s₀.heap.get? b = none := fun b q => by
  cases r : X.s₀.heap.get? b with
  | none => rfl
  | some o => exact absurd q (F0.old b o r)
theorem Inv.noted {t' : Nat} (I : Inv X pins σ H s) (F0 : Fr0 X pins g) (S : Stays g H (frs X.stack) s.heap h') : Inv X pins σ H { s with heap := h', toks := t' } := by
  have kp : ∀ b o, s.heap.get? b = some o -> b ∉ frs X.stack -> g.get? b ≠ none -> h'.get? b = some o := fun b o e n hg => S.keep b o e n (.inr hg)
  have sl : ∀ b o, s.heap.get? b = some o -> g.get? b ≠ none -> ∃ sl, h'.get? b = some { o with slots := sl } := fun b o e hg => by
    by_cases hb : b ∈ frs X.stack
    . exact S.slot b o e hb
    . exact ⟨o.slots, kp b o e hb hg⟩
  have cellK : ∀ x c, X.env.cells.lookup x = some c -> ∀ v, s.heap.IsCell c v -> h'.IsCell c v := fun x c e v ⟨o, ho, hd⟩ => by
    obtain ⟨sl, q⟩ := sl c o ho (F0.cell x c e)
    exact ⟨_, q, hd⟩
  have neL : ∀ b o, X.s₀.heap.get? b = some o -> b ≠ X.env.locals := fun b o e => Nat.ne_of_lt (Nat.lt_of_lt_of_le (Heap.lt_size e) I.ok.above)
  have nst : ∀ b, b ≠ X.env.locals -> b ∉ X.fs -> b ∉ frs X.stack := fun b h1 h2 z => (List.mem_cons.mp (I.stkSub b z)).elim h1 h2
  refine ⟨I.ok, I.os, I.bare, ⟨fun b o e n hb hx => kp b o (I.base.keep b o e n hb hx) (nst b (neL b o e) hb) (F0.old b o e), fun b o e n hb hx => ?_, I.base.free, fun b o e hx => ?_, I.base.tups, I.base.frzs, I.base.tbls⟩, ?_, fun x c e => ?_, I.free, I.freeC, fun p hp => ?_, S.hok I.stkFree I.hok, I.len⟩
  . obtain ⟨sl1, e1⟩ := I.base.slot b o e n hb hx
    obtain ⟨sl2, e2⟩ := sl b _ e1 (F0.old b o e)
    exact ⟨sl2, e2⟩
  . obtain ⟨o1, e1⟩ := I.base.there b o e hx
    obtain ⟨sl2, e2⟩ := sl b _ e1 (F0.old b o e)
    exact ⟨_, e2⟩
  . obtain ⟨m, ⟨o, es, ep, ho, r⟩, hl⟩ := I.loc
    obtain ⟨sl2, e2⟩ := sl _ o ho F0.loc
    refine ⟨m, ⟨_, es, ep, e2, r⟩, fun i x v e1 e2 e3 => ?_⟩
    obtain ⟨u, r, l⟩ := hl i x v e1 e2 e3
    refine ⟨u, r, ?_⟩
    rcases l with l | ⟨k, c, e, z⟩
    . exact .inl l
    . exact .inr ⟨k, c, e, cellK x c e _ z⟩
  . obtain ⟨v, z⟩ := I.cell x c e
    exact ⟨v, cellK x c e v z⟩
  . obtain ⟨e, n, ne, nf, d⟩ := I.pin p hp
    exact ⟨kp p.1 p.2 e (nst _ ne nf) (F0.pin p hp), n, ne, nf, d⟩
theorem Inv.track {a : Addr} {o : HO} (I : Inv X pins σ H s) (F0 : Fr0 X pins g) (hg : g.get? a = none) (hn : H a = none) (new : ObjOk X.prog X.w (upd H a o) s.heap a o) : Inv X pins σ (upd H a o) s := by
  have ne : ∀ b, g.get? b ≠ none -> b ≠ a := fun b h z => h (z ▸ hg)
  refine ⟨I.ok, I.os, I.bare, ⟨I.base.keep, I.base.slot, fun b o e n hx => by rw [upd_ne (ne b (F0.old b o e))]; exact I.base.free b o e n hx, I.base.there, fun b xs e => by rw [upd_ne (ne_of_none (I.base.tups b xs e) hn)]; exact I.base.tups b xs e, fun b o u e => by rw [upd_ne (ne_of_none (I.base.frzs b o u e) hn)]; exact I.base.frzs b o u e, fun b ps e => ?_⟩, I.loc, I.cell, ?_, fun x c e => ?_, fun p hp => ?_, fun b u e => ?_, I.len⟩
  . obtain ⟨m, e1⟩ := I.base.tbls b ps e
    exact ⟨m, by rw [upd_ne (ne_of_none e1 hn)]; exact e1⟩
  . rw [upd_ne (ne _ F0.loc)]; exact I.free
  . rw [upd_ne (ne _ (F0.cell x c e))]; exact I.freeC x c e
  . obtain ⟨e, n, q⟩ := I.pin p hp
    exact ⟨e, by rw [upd_ne (ne _ (F0.pin p hp))]; exact n, q⟩
  . by_cases hb : b = a
    . subst hb; rw [upd_same] at e; cases e; exact new
    . rw [upd_ne hb] at e
      exact (I.hok b u e).stay (fun c v _ q => q) (fun c q => by rw [upd_ne (ne_of_none q hn)]; exact q) fun c xs q => by rw [upd_ne (ne_of_none q hn)]; exact q
theorem Inv.unset {i : Nat} {x : Str} {v : Option Value} {m : Str -> Option Value} {t' : Nat} (I : Inv X pins σ H s) (hN : X.N.Nodup) (hi : X.N[i]? = some x) (hx : X.env.scope.names.lookup x = some .local)
    (hm : ∀ (i : Nat) (y : Str) (w : V), X.N[i]? = some y -> σ[i]? = some (some w) -> Vis X.env.scope y -> ∃ u, RelV w u /\ Look X.env s.heap m y u)
    (hn : h'.Ns X.env.locals fun y => if y = x then v else m y) (sb : Heap.SameBut X.env.locals s.heap h') : Inv X pins (σ.set i none) H { s with heap := h', toks := t' } := by
  have kp : ∀ b o, b ≠ X.env.locals -> s.heap.get? b = some o -> h'.get? b = some o := fun b o n e => (sb.2 b n).trans e
  have neL : ∀ b o, X.s₀.heap.get? b = some o -> b ≠ X.env.locals := fun b o e => Nat.ne_of_lt (Nat.lt_of_lt_of_le (Heap.lt_size e) I.ok.above)
  have cellK : ∀ x c, X.env.cells.lookup x = some c -> ∀ v, s.heap.IsCell c v -> h'.IsCell c v := fun x c e v ⟨o, ho, hd⟩ => ⟨o, kp c o (I.cne x c e) ho, hd⟩
  refine ⟨I.ok, I.os, I.bare, ⟨fun b o e n hb hx => kp b o (neL b o e) (I.base.keep b o e n hb hx), fun b o e n hb hx => ?_, I.base.free, fun b o e hx => ?_, I.base.tups, I.base.frzs, I.base.tbls⟩, ⟨_, hn, fun j y w e1 e2 e3 => ?_⟩, fun x c e => ?_, I.free, I.freeC, fun p hp => ?_, fun b u e => ?_, by simp [I.len]⟩
  . obtain ⟨sl1, e1⟩ := I.base.slot b o e n hb hx
    exact ⟨sl1, kp b _ (neL b o e) e1⟩
  . obtain ⟨o1, e1⟩ := I.base.there b o e hx
    exact ⟨o1, kp b _ (neL b o e) e1⟩
  . have hij : i ≠ j := fun z => by
      subst z
      by_cases hl : i < σ.length
      . rw [List.getElem?_set_self hl] at e2; cases e2
      . rw [List.getElem?_eq_none (by simp; omega)] at e2; cases e2
    rw [List.getElem?_set_ne hij] at e2
    obtain ⟨u, r, l⟩ := hm j y w e1 e2 e3
    refine ⟨u, r, ?_⟩
    have hyx : y ≠ x := fun z => by
      subst z
      obtain ⟨a1, b1⟩ := List.getElem?_eq_some_iff.mp hi
      obtain ⟨a2, b2⟩ := List.getElem?_eq_some_iff.mp e1
      exact hij ((List.getElem_inj hN).mp (b1.trans b2.symm))
    rcases l with ⟨k, l⟩ | ⟨k, c, e, z⟩
    . exact .inl ⟨k, by show (if y = x then v else m y) = _; rw [if_neg hyx]; exact l⟩
    . exact .inr ⟨k, c, e, cellK y c e _ z⟩
  . obtain ⟨v, z⟩ := I.cell x c e
    exact ⟨v, cellK x c e v z⟩
  . obtain ⟨e, n, ne, nf, d⟩ := I.pin p hp
    exact ⟨kp p.1 p.2 ne e, n, ne, nf, d⟩
  . refine (I.hok b u e).stay (fun c w hc q => kp c w (fun z => ?_) q) (fun _ q => q) fun _ _ q => q
    have hf := I.free
    rw [<- z] at hf
    rcases hc with rfl | hc
    . rw [hf] at e; cases e
    . rw [hf] at hc; cases hc
end
structure XOk (X : Cx) (E : St -> XK) : Prop where
  ex : ∀ b ∈ X.ex, ∃ o, (b, o) ∈ X.pn
  fly : ∀ {pins σ H s g e C dx}, Inv X pins σ H s -> Fr0 X pins g -> (∀ b, s.heap.get? b = none -> g.get? b = none) -> Fly g H s.heap e C dx .none -> E σ (.ref C) dx H -> X.xe (.ref e) s
structure XMk (X : Cx) (E : St -> XK) : Prop where
  ex : ∀ b ∈ X.ex, ∃ o, (b, o) ∈ X.pn
  made : ∀ {pins σ H s g e C dx}, Inv X pins σ H s -> Fr0 X pins g -> (∀ b, s.heap.get? b = none -> g.get? b = none) -> Made g H s.heap e C dx -> E σ (.ref C) dx H -> X.xe (.ref e) s
structure XLv (X : Cx) (E : St -> XK) : Prop where
  ex : X.ex = []
  fly : ∀ {pins σ H s g e C dx f3}, Inv X pins σ H s -> Fr0 X pins g -> (∀ b, s.heap.get? b = none -> g.get? b = none) -> Fly g H s.heap e C dx f3 -> E σ (.ref C) dx H -> X.xe (.ref e) s
theorem XOk.pass {X : Cx} {E : St -> XK} (x : XOk X E) {pins σ H s e s'} (I : Inv X pins σ H s) (h : CX1 X.prog X.w X.stack H s (E σ) e s') : X.xe e s' := by
  obtain ⟨a, C, dx, H', rfl, os, bare, un, hok, fl, hE⟩ := h
  have I' := I.call' (ch := []) os un hok bare (fun b z => absurd z (by simp))
  exact x.fly I' (I.fr0 x.ex) (fun b q => by
    cases r : s.heap.get? b with
    | none => rfl
    | some o => obtain ⟨o', e⟩ := un.there b o r (by simp); rw [q] at e; cases e) fl hE
section
variable {P : Program} {w : World} {K : PySem.W.Frag} {mg : Str -> Option Value} {base : Heap} {N : List Str} {qual : Str} {scope : Scope} {f : Addr} {cd : Value} {A : Around} {outer : List Env} {s : Shared} {H : Hp} {E : XK} {cm : Bool}
theorem xok_cx : XOk (cxOf (CX1 P w) P w K mg base N qual scope f cd A outer s H E cm) (fun _ => E) := ⟨(fun _ z => nomatch z), fun {pins σ H1 s1 g e C dx} I F0 hg F hE => by
  refine fly_leave (P := P) (w := w) (outer := outer) I.ok.frames rfl I.stack I.hok hg F fun h' F' S => ?_
  have I1 := I.noted (t' := s1.toks) F0 S
  exact ⟨e, C, dx, H1, rfl, I1.os, I1.bare, I1.base, I1.hok, F'.old F0.none, hE⟩⟩
theorem xlv_cx : XLv (cxOf (CX1 P w) P w K mg base N qual scope f cd A outer s H E cm) (fun _ => E) := ⟨rfl, fun {pins σ H1 s1 g e C dx f3} I F0 hg F hE => by
  refine fly_leaveA (P := P) (w := w) (outer := outer) I.ok.frames rfl I.stack I.hok hg F fun h' F' S => ?_
  have I1 := I.noted (t' := s1.toks) F0 S
  exact ⟨e, C, dx, H1, rfl, I1.os, I1.bare, I1.base, I1.hok, F'.old F0.none, hE⟩⟩
theorem xmk_cx : XMk (cxOf (CX1 P w) P w K mg base N qual scope f cd A outer s H E cm) (fun _ => E) := ⟨(fun _ z => nomatch z), fun {pins σ H1 s1 g e C dx} I F0 hg F hE => by
  refine made_leave (P := P) (w := w) (outer := outer) I.ok.frames rfl I.stack I.hok hg F fun h' F' S => ?_
  have I1 := I.noted (t' := s1.toks) F0 S
  exact ⟨e, C, dx, H1, rfl, I1.os, I1.bare, I1.base, I1.hok, F'.old F0.none, hE⟩⟩
end
end L2

namespace L2
open PySem PySem.Spec PyProof.Rows
abbrev bmV : List Value := [.type "ValueError", .type "Exception", .type "BaseException", .type "object"]
abbrev newV : String := "ValueError.__new__"
def tRaise (C : Addr) (E : St -> XK) (t : TA) : TS := fun _ σ H => t σ H fun vs H1 => vs.length <= sizeLine /\ E σ (.ref C) none H1
section
variable {X : Cx} {E : St -> XK} {x : Str} {C : Addr} {np cpos pos : Pos} {a : Expr} {as : List Expr} {t : TA}
theorem ps_raise (xm : XMk X E) (hc : X.calm = true) (hg : Gl X x) (hm : X.mg x = some (.ref C)) (hC : W.excIn X.K C bmV newV = true) (ha : PA X (a :: as) t) (hdb : (x == ("__debug__" : Str)) = false := by decide)
    (hst : ∃ y r, backTo cpos (starEach (a :: as) X.env) = (false, y) :: r := by exact ⟨_, _, rfl⟩) (hpl : (backTo cpos (starEach (a :: as) X.env)).any (·.1) = false := by rfl) :
    PS X (.Raise (some (.Call (.Name x np) (a :: as) [] cpos)) none pos) (tRaise C E t) := by
  intro pins s σ H D I h
  obtain ⟨bm, N, nm, q, bs, hdct, sn, sub, ab, col, dd, k0, k1, k2, k3, k5, mN, o1, o2, o3, o4⟩ := excObj_of I.ok.mod.kin hC
  have hb : bm.contains (Value.type "BaseException") = true := o4.hasType (by decide +kernel)
  refine wpAny_Raise_call_subT F.excBase_ValueError (nm := nm) (q := q) (C := C) (N := N) (bs := bs) (bm := bm) (hdct := hdct) (sn := sn) (sub := sub) (ab := ab) (col := col) (dd := dd) (k0 := k0) (k1 := k1) (k2 := k2) (k3 := k3) (k5 := k5) (mN := mN) hb (I.ok.hd hc) hpl o3 (ld_glob I hg hm ⟨rfl, ?_⟩ hdb)
  obtain ⟨y, r, hst⟩ := hst
  rw [hst]
  refine Calls.evalArgs_plain ?_
  rw [<- hst]
  refine thn (ha cpos pins s σ H _ I h) fun us s2 ⟨vs, H2, I2, rv, hl, hE⟩ => ⟨rfl, by show us.length <= _; rw [<- rv.length]; exact hl, I2.bk _ _ o1, ?_, o4.keeps I2.bk, fun h' e mk => ?_⟩
  . obtain ⟨o, es, ep, ho, r⟩ := o2
    exact ⟨o, es, ep, I2.bk _ _ ho, r⟩
  . obtain ⟨kp, nw, tt, he, _, _⟩ := mk
    have hHe : H2 e = none := by
      cases r : H2 e with
      | none => rfl
      | some o => obtain ⟨u, hu⟩ := (I2.hok e o r).there; rw [nw] at hu; cases hu
    refine xm.made (I2.kept (t' := s2.toks) kp) (I2.fr0 xm.ex) (fun b z => ?_) ⟨_, _, he, rfl, rfl, rfl, rfl, hHe, nw⟩ hE
    cases r : s2.heap.get? b with
    | none => rfl
    | some o => have e1 := kp b o r; rw [show h'.get? b = none from z] at e1; cases e1
end
section
variable {X : Cx} {E : St -> XK} {k j : Nat} {f C : Addr} {fd : FuncData} {ps ks : List Str} {sp : Sp} {x c m : Str} {p pos apos : Pos} {e o : Expr} {es : List Expr} {kws : List Keyword} {ta : TE} {t tk : TA} {g : List Value -> List Value -> List Value} {gV : List V -> List V -> List V}
theorem run_fnkX {pins : List (Addr × Obj)} {σ : St} {H : Hp} {s : Shared} {Q : VK} {us ws : List Value} {vs zs : List V} (F : FnOk X.prog X.w X.K X.mg X.base (CX1 X.prog X.w) k f fd ps sp) (hr : Room k X.A) (hb : KBinds X.K fd ps ks g gV) (hx : XOk X E)
    (I : Inv X pins σ H s) (r : Vals vs us) (rz : Vals zs ws) (h : sp (gV vs zs) H Q (E σ)) : wpAny (model X.prog X.w) X.A (call (.ref f) us (ks.zip ws)) (EP X pins σ Q) X.xe s := by
  have r2 := hb.rel r rz
  have hl : (g us ws).length = ps.length := by rw [<- r2.length]; exact F.len _ _ _ _ h
  refine wpAny_call (codeAny_mono (F.run X.A X.stack s H ⟨us, ks.zip ws⟩ (g us ws) (gV vs zs) Q (E σ) hr I.env0 (hb.to s us ws I.kIn hl) r2 h) fun r s' hq => ?_)
  cases r with
  | error e => exact hx.pass I hq
  | ok fl =>
    cases fl with
    | ret u => exact I.after hq
    | next => exact False.elim hq
    | brk => exact False.elim hq
    | cont => exact False.elim hq
def tCallX (sp : Sp) (gV : List V -> List V -> List V) (E : St -> XK) (t tk : TA) : TE := fun σ H Q => t σ H fun vs H1 => tk σ H1 fun zs H2 => sp (gV vs zs) H2 Q (E σ)
theorem qe_callX (h : HasK X.prog X.w X.K X.mg X.base (CX1 X.prog X.w) x j ps sp ks gV) (hr : Room k X.A) (hx : XOk X E) (ha : WA X (e :: es) t) (hkw : WK X kws tk) (hj : j <= k := by decide) (hg : Gl X x := by rfl)
    (hall : (backToKw pos (keywordEach kws X.env)).all (·.1.isSome) = true := by rfl) (hks : (backToKw pos (keywordEach kws X.env)).filterMap (·.1) = ks := by rfl)
    (hdb : (x == ("__debug__" : Str)) = false := by decide) (he : starEach (e :: es) X.env = (false, eval e X.env) :: starEach es X.env := by rfl)
    (hpl : ((backTo pos (starEach (e :: es) X.env)).any (·.1) || (backToKw pos (keywordEach kws X.env)).any (·.1.isNone)) = false := by rfl) : WE X (.Call (.Name x p) (e :: es) kws pos) (tCallX sp gV E t tk) := ⟨by
  obtain ⟨f, fd, g, F, b, kp, m⟩ := h.ex
  intro pins s σ H Q I h
  refine wpAny_Call_Name_kw (ld_glob I hg m ?_ hdb)
  refine PySem.W.callWith_KW (h₀ := X.base) I.ok.mod.kin kp hall (thn (ha.out pos pins s σ H _ I h) fun us s1 ⟨vs, H1, I1, r, q⟩ => ?_) hpl he
  refine thn (hkw.out pos pins s1 σ H1 _ I1 q) fun ws s2 ⟨zs, H2, I2, rz, q2⟩ => ⟨I2.kIn, ?_⟩
  rw [hks]
  exact run_fnkX (F.mono hj) hr b hx I2 r rz q2⟩
def tMethX (K : PySem.W.Frag) (c m : Str) (sp : Sp) (gV : List V -> List V -> List V) (E : St -> XK) (ta : TE) (t tk : TA) : TE := fun σ H Q => ta σ H fun x H1 => ∃ C a dx fs, clsOf K c = some C /\ x = .ref a /\ H1 a = some (.ins C dx fs) /\ fs.lookup m = none /\
  t σ H1 fun vs H2 => tk σ H2 fun zs H3 => sp (gV (x :: vs) zs) H3 Q (E σ)
theorem qe_methX {pl : Sem Bool} (K : PySem.W.Frag) (hh : HasMt X.prog X.w X.K X.mg X.base (CX1 X.prog X.w) c m j ps sp ks gV) (hr : Room k X.A) (hx : XOk X E) (he : WE X o ta) (ha : WA X (e :: es) t) (hkw : WK X kws tk) (hK : X.K = K := by rfl) (hj : j <= k := by decide)
    (hall : (backToKw pos (keywordEach kws X.env)).all (·.1.isSome) = true := by rfl) (hks : (backToKw pos (keywordEach kws X.env)).filterMap (·.1) = ks := by rfl)
    (hst : starEach (e :: es) X.env = (false, eval e X.env) :: starEach es X.env := by rfl)
    (hpl : ((backTo pos (starEach (e :: es) X.env)).any (·.1) || (backToKw pos (keywordEach kws X.env)).any (·.1.isNone)) = false := by rfl)
    (ht : eval (.Call (.Attribute o m apos) (e :: es) kws pos) X.env = (do
      let ov <- eval o X.env
      standAt apos.atName
      let (f, first) <- holding [ov] (getMethod ov m pl)
      callWith pos f first (backTo pos (starEach (e :: es) X.env)) (backToKw pos (keywordEach kws X.env))) := by rfl) :
    WE X (.Call (.Attribute o m apos) (e :: es) kws pos) (tMethX K c m sp gV E ta t tk) := ⟨by
  subst hK
  obtain ⟨C0, f, fd, g, hc0, hcl, hm, F, hb⟩ := hh.ex
  intro pins s σ H Q I h
  refine PySem.W.methodCall_KW (pl := pl) (thn (he.out pins s σ H _ I h) fun u s1 ⟨x, H1, I1, rx, C, a, dx, fs, hc, ex, ea, l, q⟩ => ?_) ht
  rw [hc0] at hc; cases hc
  subst ex
  obtain rfl : u = Value.ref a := rx
  refine getmeth_ok I1 ea hcl hm l ?_
  refine PySem.W.callWith_KW (first := [.ref a]) (h₀ := X.base) I.ok.mod.kin hm.kp hall (thn (ha.out pos pins s1 σ H1 _ I1 q) fun us s2 ⟨vs, H2, I2, r, q2⟩ => ?_) hpl hst
  refine thn (hkw.out pos pins s2 σ H2 _ I2 q2) fun ws s3 ⟨zs, H3, I3, rz, q3⟩ => ⟨I3.kIn, ?_⟩
  rw [hks]
  exact run_fnkX (us := .ref a :: us) (vs := .ref a :: vs) (F.mono hj) hr hb hx I3 (.cons rfl r) rz q3⟩
end
abbrev Cx.tr (X : Cx) (xe : Value -> Shared -> Prop) (pn : List (Addr × Obj)) : Cx := { X with xe := xe, pn := pn }
abbrev Cx.hand (X : Cx) (e : Addr) : Cx := { X with A := X.A.mark (some (.ref e)), calm := false, xe := fun _ _ => False }
section
variable {X : Cx} {pins pn : List (Addr × Obj)} {σ : St} {H : Hp} {s : Shared} {xe : Value -> Shared -> Prop} {e : Addr} {g : Heap}
theorem Cx.Ok.tr (ok : X.Ok) : (X.tr xe pn).Ok := ⟨ok.mod, ok.kind, ok.glob, ok.blt, ok.above, ok.inj, ok.has, ok.cab, ok.hd, ok.frames, ok.stk, ok.exf, ok.bs, ok.bsz, ok.noex, ok.exfs, ok.funs, ok.frf⟩
theorem Cx.Ok.untr (ok : (X.tr xe pn).Ok) : X.Ok := ⟨ok.mod, ok.kind, ok.glob, ok.blt, ok.above, ok.inj, ok.has, ok.cab, ok.hd, ok.frames, ok.stk, ok.exf, ok.bs, ok.bsz, ok.noex, ok.exfs, ok.funs, ok.frf⟩
theorem Inv.tr (I : Inv X pins σ H s) : Inv (X.tr xe (X.pn ++ pins)) [] σ H s := ⟨I.ok.tr, I.os, I.bare, I.base, I.loc, I.cell, I.free, I.freeC, fun p hp => I.pin p (by simpa using hp), I.hok, I.len⟩
theorem Inv.untr {pins' : List (Addr × Obj)} (I : Inv (X.tr xe (X.pn ++ pins)) pins' σ H s) : Inv X pins σ H s := ⟨I.ok.untr, I.os, I.bare, I.base, I.loc, I.cell, I.free, I.freeC, fun p hp => I.pin p (List.mem_append_left _ hp), I.hok, I.len⟩
theorem Fr0.untr {pins' : List (Addr × Obj)} (F : Fr0 (X.tr xe (X.pn ++ pins)) pins' g) : Fr0 X pins g := ⟨F.loc, F.cell, fun p hp => F.pin p (List.mem_append_left _ hp), F.old⟩
theorem SP.untr {D : Ends} {f : Flow} {s' : Shared} (h : SP (X.tr xe (X.pn ++ pins)) [] D f s') : SP X pins D f s' := by
  cases f with
  | next => obtain ⟨σ', H', I, q⟩ := h; exact ⟨σ', H', I.untr, q⟩
  | brk => obtain ⟨σ', H', I, q⟩ := h; exact ⟨σ', H', I.untr, q⟩
  | cont => obtain ⟨σ', H', I, q⟩ := h; exact ⟨σ', H', I.untr, q⟩
  | ret u => obtain ⟨v, σ', H', I, r, q⟩ := h; exact ⟨v, σ', H', I.untr, r, q⟩
theorem Inv.hand (I : Inv X pins σ H s) : Inv (X.hand e) pins σ H s := ⟨⟨I.ok.mod, I.ok.kind, I.ok.glob, I.ok.blt, I.ok.above, I.ok.inj, I.ok.has, I.ok.cab, fun z => (nomatch z), I.ok.frames, I.ok.stk, I.ok.exf, I.ok.bs, I.ok.bsz, I.ok.noex, I.ok.exfs, I.ok.funs, I.ok.frf⟩, I.os, I.bare, I.base, I.loc, I.cell, I.free, I.freeC, I.pin, I.hok, I.len⟩
theorem Inv.unhand (ok : X.Ok) (I : Inv (X.hand e) pins σ H s) : Inv X pins σ H s := ⟨ok, I.os, I.bare, I.base, I.loc, I.cell, I.free, I.freeC, I.pin, I.hok, I.len⟩
end
def hEnds (D : Ends) (i : Nat) : Ends := { nx := fun σ' H' => D.nx (σ'.set i none) H', rt := D.rt, bk := fun σ' H' => D.bk (σ'.set i none) H', ct := fun σ' H' => D.ct (σ'.set i none) H' }
def hRun (K : PySem.W.Frag) (Ch : Addr) (i : Nat) (th : TS) (D : Ends) : St -> XK := fun σ c dx H => ∃ C, c = .ref C /\ dx = none /\ W.exmOne K (.ref C) (.ref Ch) = some true /\ ∀ a, H a = none -> th (hEnds D i) (σ.set i (some (.ref a))) (upd H a (ExcO a C none))
def tTry (K : PySem.W.Frag) (Ch : Addr) (i : Nat) (tb : (St -> XK) -> TS) (th : TS) : TS := fun D σ0 H0 => tb (hRun K Ch i th D) D σ0 H0
section
variable {X : Cx} {i : Nat} {n x : Str} {Ch : Addr} {body suite : List Stmt} {b₀ : Stmt} {np hpos pos : Pos} {tb : (St -> XK) -> TS} {th : TS}
theorem ps_try (hx : X.ex = []) (hs : X.stack = X.env :: X.outer) (hL : X.env.frame = some X.env.locals) (hN : X.N.Nodup) (hi : X.N[i]? = some n) (hn : X.env.scope.names.lookup n = some .local) (hg : Gl X x) (hm : X.mg x = some (.ref Ch))
    (hb : ∀ E xe pn, XOk (X.tr xe pn) E -> PSs (X.tr xe pn) body (tb E)) (hh : ∀ a, PSs (X.hand a) (b₀ :: suite) th) (hdb : (x == ("__debug__" : Str)) = false := by decide) :
    PS X (.Try body [.ExceptHandler (some (.Name x np)) (some n) (b₀ :: suite) hpos] [] [] pos) (tTry X.K Ch i tb th) := by
  intro pins s σ0 H0 D I h
  have ok := I.ok
  refine wpAny_Try_except ?_
  have xo : XOk (X.tr (fun e s1 => ∃ σ H g a C dx, e = .ref a /\ Inv X pins σ H s1 /\ Fr0 X pins g /\ (∀ b, s1.heap.get? b = none -> g.get? b = none) /\ Fly g H s1.heap a C dx .none /\ hRun X.K Ch i th D σ (.ref C) dx H) (X.pn ++ pins)) (hRun X.K Ch i th D) :=
    ⟨(fun b z => by rw [show (X.tr _ _).ex = X.ex from rfl, hx] at z; cases z), fun {pins' σ H s g e C dx} I F0 hg F hE => ⟨σ, H, g, e, C, dx, rfl, I.untr, F0.untr, hg, F, hE⟩⟩
  refine wpAny_mono (hb _ _ _ xo [] s σ0 H0 D I.tr h) (fun f s1 hf => ?_) (fun e s1 he => ?_)
  . have hf' := SP.untr hf
    cases f with
    | next => obtain ⟨σ', H', I', q⟩ := hf'; exact pss_nil pins s1 σ' H' D I' q
    | brk => exact hf'
    | cont => exact hf'
    | ret u => exact hf'
  . obtain ⟨σ, H, g, a, C, dx, rfl, I1, F0, hg1, F, C', eC, rfl, hex, hE⟩ := he
    cases eC
    have hfr : X.A.frames = some (X.env :: X.outer) := by rw [<- hs]; exact I1.ok.frames
    have ff : s1.heap.FunFrames X.base (X.env :: X.outer) := by rw [<- hs]; exact I1.stack
    have fE : frs (X.env :: X.outer) = frs X.stack := by rw [hs]
    refine fly_note (P := X.prog) (w := X.w) hfr hL ff I1.hok hg1 F fun h2 F2 S2 => ?_
    rw [fE] at S2
    have I2 := I1.noted (t' := s1.toks) F0 S2
    have ff2 : h2.FunFrames X.base (X.env :: X.outer) := by rw [<- hs]; exact I2.stack
    refine fly_set ff2 F2 fun h3 F3 S3 _ _ => ?_
    rw [fE] at S3
    have I3 := I2.noted (t' := s1.toks) F0 S3
    have ff3 : h3.FunFrames X.base (X.env :: X.outer) := by rw [<- hs]; exact I3.stack
    refine wpAny_handleBy_cons (codeAny_handlers_test ?_) (fun z => nomatch z)
    refine ld_glob (X := X.hand a) I3.hand hg hm ?_ hdb
    have ty : W.Looks (model X.prog X.w) h3 (typeOf (.ref a)) (.ref C) := by
      obtain ⟨oe, vs, T, oT, ts, e1, e2, e3, e4, _⟩ := F3
      exact (W.InstAt.mk (od := none) e1 e2 (by unfold W.notCls; rw [e4]) (by rw [e3]; trivial)).type
    refine (W.exm_one I3.kIn ty hex).at ?_
    refine codeAny_handlers_suite_as ?_
    refine fly_set ff3 F3 fun h4 F4 S4 _ _ => ?_
    rw [fE] at S4
    have I4 := I3.noted (t' := s1.toks) F0 S4
    obtain ⟨oe, vs, T, oT, ts, e1, e2, e3, e4, _, _, _, _, _, hHa, _, hga, _⟩ := F4
    have I5 : Inv X pins σ (upd H a (ExcO a C none)) _ := I4.track (o := ExcO a C none) F0 hga hHa ⟨⟨oe, e1, e2, e3, by unfold W.notCls; rw [e4]⟩, ⟨oe, e1⟩, fun h1 h2 ⟨ox, q1, q2⟩ k => ⟨ox, k _ q1, q2⟩⟩
    refine store_ok I5 hN hi (.inl hn) (show RelV (.ref a) (.ref a) from rfl) (fun s6 I6 => ?_) (.inr hn)
    refine wpAny_mono (hh a pins s6 _ _ _ I6.hand (hE a hHa)) (fun f s7 hf => ?_) (fun _ _ z => z.elim)
    have fin : ∀ {σ7 : St} {H7 : Hp} {Q : Unit -> Shared -> Prop}, Inv (X.hand a) pins σ7 H7 s7 -> (∀ s8, Inv X pins (σ7.set i none) H7 s8 -> Q () s8) -> wpAny (model X.prog X.w) X.A (do
        bindName X.env n Value.none
        unbindBehindTheSuite X.env n hpos) Q X.xe s7 := fun {σ7 H7 Q} I7 k => by
      have I7' := I7.unhand ok
      obtain ⟨m, hns, hl⟩ := I7'.loc
      refine wpAny_nameGoes_keeps hn hns (by rw [ok.kind]; rfl) fun h8 v n8 sb => k _ (I7'.unset (t' := s7.toks + 1) hN hi hn hl n8 sb)
    cases f with
    | next => obtain ⟨σ7, H7, I7, q⟩ := hf; exact fin I7 fun s8 I8 => ⟨_, _, I8, q⟩
    | brk => obtain ⟨σ7, H7, I7, q⟩ := hf; exact fin I7 fun s8 I8 => ⟨_, _, I8, q⟩
    | cont => obtain ⟨σ7, H7, I7, q⟩ := hf; exact fin I7 fun s8 I8 => ⟨_, _, I8, q⟩
    | ret u => obtain ⟨v, σ7, H7, I7, r, q⟩ := hf; exact fin I7 fun s8 I8 => ⟨v, _, _, I8, r, q⟩
end
end L2

namespace L2
open PySem PySem.Spec PyProof.Rows
theorem RoomC.hand {cm : Bool} {k : Nat} {A : Around} (r : RoomC cm k A) (v : Option Value) : RoomC false k (A.mark v) := ⟨fun z => (nomatch z), r.dp, r.un, r.gd⟩
theorem RoomC.lax {cm : Bool} {k : Nat} {A : Around} (r : RoomC cm k A) : RoomC false k A := ⟨fun z => (nomatch z), r.dp, r.un, r.gd⟩
structure HasU (P : Program) (w : World) (K : PySem.W.Frag) (mg : Str -> Option Value) (base : Heap) (x : Str) (k : Nat) (ps : List Str) (sp : Sp) : Prop where
  ex : ∃ f fd, FnOk P w K mg base CX0 k f fd ps sp false /\ Binds K fd ps [] /\ PySem.W.keepIn K (.ref f) = true /\ mg x = some (.ref f)
section
variable {X : Cx} {cm : Bool} {j k : Nat} {f : Addr} {fd : FuncData} {ps : List Str} {sp : Sp} {x : Str} {p pos : Pos} {e : Expr} {es : List Expr} {t : TA}
theorem run_fnU {pins : List (Addr × Obj)} {σ : St} {H : Hp} {s : Shared} {Q : VK} {us : List Value} {vs : List V} (F : FnOk X.prog X.w X.K X.mg X.base CX0 j f fd ps sp false) (hr : RoomC cm k X.A) (hj : j <= k) (hb : Binds X.K fd ps [])
    (I : Inv X pins σ H s) (r : Vals vs us) (h : sp (vs ++ []) H Q E0) : wpAny (model X.prog X.w) X.A (call (.ref f) us) (EP X pins σ Q) X.xe s := by
  have r2 : Vals (vs ++ []) (us ++ []) := r.append .nil
  have hl : (us ++ []).length = ps.length := by rw [<- r2.length]; exact F.len _ _ _ _ h
  refine wpAny_call (codeAny_mono (F.run X.A X.stack s H ⟨us, []⟩ (us ++ []) (vs ++ []) Q E0 (hr.lax.mono hj) I.env0 (hb s us I.kIn hl) r2 h) fun r s' hq => ?_)
  cases r with
  | error e => exact False.elim hq
  | ok fl =>
    cases fl with
    | ret u => exact I.after hq
    | next => exact False.elim hq
    | brk => exact False.elim hq
    | cont => exact False.elim hq
theorem qe_callU (h : HasU X.prog X.w X.K X.mg X.base x j ps sp) (hr : RoomC cm k X.A) (ha : WA X (e :: es) t) (hj : j <= k := by decide) (hg : Gl X x := by rfl) (hdb : (x == ("__debug__" : Str)) = false := by decide)
    (he : starEach (e :: es) X.env = (false, eval e X.env) :: starEach es X.env := by rfl) (hpl : (backTo pos (starEach es X.env)).any (·.1) = false := by rfl) :
    WE X (.Call (.Name x p) (e :: es) [] pos) (tCall sp [] E0 t) := ⟨by
  obtain ⟨f, fd, F, b, kp, m⟩ := h.ex
  intro pins s σ H Q I h
  refine wpAny_Call_Name_kw (ld_glob I hg m ?_ hdb)
  refine PySem.W.callWith_K (h₀ := X.base) I.ok.mod.kin kp (thn (ha.out pos pins s σ H _ I h) fun us s1 ⟨vs, H1, I1, r, q⟩ => ⟨I1.kIn, ?_⟩) he hpl
  exact run_fnU F hr hj b I1 r q⟩
end
section
variable {P : Program} {w : World} {K : PySem.W.Frag} {fl : Wd} {mg : Str -> Option Value} {base : Heap}
theorem Fun.okU {x qual : Str} {st : Stmt} {f : Addr} {fd : FuncData} {N ps : List Str} {k n : Nat} (dw : DS) (F : Fun K x qual st f fd) (S : FnScope N ps (defScope st)) (len : ps.length = n)
    (hbody : ∀ (cdv : Value) (A : Around) (outer : List Env) (s : Shared) (H : Hp) (E : XK), RoomC false k (A.deeper (envOfC qual (defScope st) s.heap.objs.size f cdv)) ->
      ∃ t, WSs (cxOf CX0 P w K mg base N qual (defScope st) f cdv A outer s H E false).nox (defBody st) t /\ ∀ fl, SimS K fl t dw) : FnOk P w K mg base CX0 (k + 1) f fd ps (lift K (bodySp dw N n)) false := by
  obtain ⟨oc, od, kV, doc, pm, an, cdv, ct, osl, rfl, lk, hcd⟩ := F.ex
  refine fn_of lk hcd S (fun vs H Q E h => ?_) fun A outer s H vs Q E hr h => ?_
  . obtain ⟨_, W, μ, ds, Q0, _, r, h, _⟩ := h
    rw [r.length, h.1, len]
  . obtain ⟨fl, W, μ, ds, Q0, rel, r, h, k⟩ := h
    obtain ⟨t, ht, sm⟩ := hbody cdv A outer s H E hr
    refine ⟨t, ht.out.nox, (sm W).run (rel.floor (.refl W)) (.start r) h.2 ⟨fun W' ρ μ σ H le rr ee hh => ?_, fun _ _ _ _ _ _ _ _ hh => hh.elim, fun _ _ _ _ _ _ _ _ hh => hh.elim, fun W' d μ x H le rr ee hh => ?_⟩⟩
    . obtain ⟨μ'', l, hh⟩ := hh
      exact k W' .non μ'' _ H le ((rr.floor (rel.up.trans le)).less l) .n hh
    . obtain ⟨μ'', l, hh⟩ := hh
      exact k W' d μ'' x H le ((rr.floor (rel.up.trans le)).less l) ee hh
end
def excOk (K : PySem.W.Frag) (D : Addr) : Bool :=
  W.findIn K (.ref D) "__getattribute__" == some (some (.builtin "BaseException.__getattribute__")) && W.findIn K (.ref D) "__getattr__" == some none && W.mroIn K D (.type "BaseException") == some true && W.mroIn K D (.type "object") == some true &&
  W.findIn K (.ref D) "__class__" == some (some (.builtin "object.__class__")) && W.specialIn K (.builtin "object.__class__") "__get__" == some (some (.builtin "getset_descriptor.__get__")) && W.takesIn K (.builtin "object.__class__") == some true && W.kitCls K (.ref D) (.ref D) == some true
theorem ExcC.of {K : PySem.W.Frag} {D : Addr} (h : excOk K D = true) : ExcC K D := by
  unfold excOk at h
  simp only [Bool.and_eq_true, beq_iff_eq] at h
  obtain ⟨⟨⟨⟨⟨⟨⟨h1, h2⟩, h3⟩, h4⟩, h5⟩, h6⟩, h7⟩, h8⟩ := h
  exact ⟨h1, h2, h3, h4, h5, h6, h7, h8⟩
def excTab (K : PySem.W.Frag) (es ps ks hs : List Str) : Bool := es.all fun c => match clsOf K c with
  | none => false
  | some C => excOk K C && (!ps.contains c || W.excIn K C bmV newV) && W.kitOne K (.ref C) (.type "ValueError") == some true &&
    (ks.all fun k => match clsOf K k with
      | none => false
      | some D => W.kitOne K (.ref C) (.ref D) == some (c == k)) &&
    hs.all fun k => match clsOf K k with
      | none => false
      | some D => W.exmOne K (.ref C) (.ref D) == some true
class ETab (K : PySem.W.Frag) (es : List Str) (ps : outParam (List Str)) (ks : List Str) (hs : outParam (List Str)) : Prop where
  ok : excTab K es ps ks hs = true
section
variable {K : PySem.W.Frag} {es ps ks hs : List Str} {c k : Str} {C D : Addr}
theorem ETab.row (t : ETab K es ps ks hs) (hc : c ∈ es) (h : clsOf K c = some C) : ExcC K C /\ (c ∈ ps -> W.excIn K C bmV newV = true) /\ W.kitOne K (.ref C) (.type "ValueError") = some true /\
    (∀ k ∈ ks, ∀ D, clsOf K k = some D -> W.kitOne K (.ref C) (.ref D) = some (c == k)) /\ ∀ k ∈ hs, ∀ D, clsOf K k = some D -> W.exmOne K (.ref C) (.ref D) = some true := by
  have e := t.ok
  unfold excTab at e
  have e := List.all_eq_true.mp e c hc
  rw [h] at e
  simp only [Bool.and_eq_true, beq_iff_eq, List.all_eq_true, Bool.or_eq_true, Bool.not_eq_true'] at e
  obtain ⟨⟨⟨⟨e1, e2⟩, e3⟩, e4⟩, e5⟩ := e
  refine ⟨.of e1, fun hp => e2.resolve_left (by rw [List.contains_iff_mem.mpr hp]; simp), e3, fun k hk D hD => ?_, fun k hk D hD => ?_⟩
  . have := e4 k hk; rw [hD] at this; simpa using this
  . have := e5 k hk; rw [hD] at this; simpa using this
theorem ETab.exc (t : ETab K es ps ks hs) (i : IsCls K c C) (hc : c ∈ es) (hp : c ∈ ps) : W.excIn K C bmV newV = true := (t.row hc i.at_).2.1 hp
end
def rIsE (K : PySem.W.Frag) : List V -> Hp -> VK -> Prop := fun xs H Q => ∃ a c C b, xs = [.ref a, c] /\ H a = some (ExcO a C none) /\ ExcC K C /\ (∀ u, RelV c u -> W.kitOne K (.ref C) u = some b) /\ Q (.bl b) H
theorem call_isiE {X : Cx} (K : PySem.W.Frag) (h : X.K = K := by rfl) : CallR X (.builtin "isinstance") (rIsE K) := by
  subst h
  intro pins s σ H xs us Q I r h
  obtain ⟨a, c, C, b, rfl, ea, ec, e, q⟩ := h
  obtain ⟨u, v, rfl, ru, rv⟩ := vals2 r
  obtain ⟨⟨ox, e1, e2, e3, e4⟩, _⟩ := (show ObjOk X.prog X.w H s.heap a (ExcO a C none) from I.hok a _ ea)
  cases (show u = Value.ref a from ru)
  exact PySem.W.kia_one (ec.kit (od := none)) I.kIn (W.InstAt.mk (od := none) e1 e2 e4 (by rw [e3]; trivial)) (e v rv) (fun z => nomatch z) fun tk => ⟨.bl b, H, I.tok tk, rfl, q⟩
def dIsE (es ks : List Str) : DRs := fun ds μ Q => match ds with
  | [.exc c, .cls k] => c ∈ es /\ k ∈ ks /\ Q (.bl (c == k)) μ
  | [.exc c, .ty n] => c ∈ es /\ n = "ValueError" /\ Q (.bl true) μ
  | _ => False
instance {K : PySem.W.Frag} {fl : Wd} {es ps ks hs : List Str} [t : ETab K es ps ks hs] : SimRs K fl (rIsE K) (dIsE es ks) := ⟨fun {W μ H ds xs Q Q'} r z h k => by
  unfold dIsE at h
  split at h
  . obtain ⟨x, y, rfl, q1, q2⟩ := z.two
    obtain ⟨hc, hk, h⟩ := h
    unfold Rep at q1 q2
    obtain ⟨C, a, hC, rfl, ea⟩ := q1
    obtain ⟨D, hD, rfl⟩ := q2
    obtain ⟨r1, _, _, r4, _⟩ := t.row hc hC
    exact ⟨a, _, C, _, rfl, r.sub _ _ ea, r1, fun u hu => by cases hu; exact r4 _ hk D hD, k _ _ _ _ _ (.refl _) r .b h⟩
  . obtain ⟨x, y, rfl, q1, q2⟩ := z.two
    obtain ⟨hc, rfl, h⟩ := h
    unfold Rep at q1 q2
    obtain ⟨C, a, hC, rfl, ea⟩ := q1
    subst q2
    obtain ⟨r1, _, r3, _, _⟩ := t.row hc hC
    exact ⟨a, _, C, true, rfl, r.sub _ _ ea, r1, fun u hu => by cases hu; exact r3, k _ _ _ _ _ (.refl _) r .b h⟩
  . exact h.elim⟩
abbrev DX := Str -> Mu -> Prop
abbrev DXE := DEnv -> DX
abbrev DSpX := List D -> Mu -> DK -> DX -> Prop
class XR (K : PySem.W.Frag) (fl : Wd) (Ex : DXE) (E : St -> XK) : Prop where
  run : ∀ {W ρ μ σ H c C}, Rel K fl W μ H -> EnvR K W ρ σ -> Ex ρ c μ -> clsOf K c = some C -> E σ (.ref C) none H
def liftX (K : PySem.W.Frag) (dsp : DSpX) : Sp := fun vs H Q E => ∃ fl W μ ds Q0 X0, Rel K fl W μ H /\ Reps K W ds vs /\ dsp ds μ Q0 X0 /\ KV' K fl W Q0 Q /\ ∀ W' c C μ' H', W.le W' -> Rel K fl W' μ' H' -> X0 c μ' -> clsOf K c = some C -> E (.ref C) none H'
def dRaise (c : Str) (Ex : DXE) (w : DA) : DS := fun _ ρ μ => w ρ μ fun ds μ1 => ds.length <= sizeLine /\ Ex ρ c μ1
def dCallX (dsp : DSpX) (Ex : DXE) (n m : Nat) (pat : List Src) (cs : List D) (w wk : DA) : DE := fun ρ μ Q => w ρ μ fun ds μ1 => wk ρ μ1 fun es μ2 => dsp (sel n m pat .non cs ds es) μ2 Q (Ex ρ)
def dMethX (c m : Str) (dsp : DSpX) (Ex : DXE) (n j : Nat) (pat : List Src) (cs : List D) (wo : DE) (w wk : DA) : DE := fun ρ μ Q => wo ρ μ fun d μ1 => (insM μ1 d fun c' ns vs => c' = c /\ (ns.zip vs).lookup m = none) /\ w ρ μ1 fun ds μ2 => wk ρ μ2 fun es μ3 => dsp (sel n j pat .non cs (d :: ds) es) μ3 Q (Ex ρ)
def hEndsD (D : DEnds) (i : Nat) : DEnds := { nx := fun ρ μ => D.nx (ρ.set i none) μ, rt := D.rt, bk := fun ρ μ => D.bk (ρ.set i none) μ, ct := fun ρ μ => D.ct (ρ.set i none) μ }
def dTry (es : List Str) (i : Nat) (wb : DXE -> DS) (wh : DS) : DS := fun D ρ μ => wb (fun ρ' c μ' => c ∈ es /\ wh (hEndsD D i) (ρ'.set i (some (.exc c))) μ') D ρ μ
section
variable {K : PySem.W.Frag} {fl : Wd} {Ex : DXE} {E : St -> XK} {t tk : TA} {w wk : DA} {n j m : Nat} {pat : List Src} {csD : List D} {csV : List V} {c : Str} {C : Addr} {dsp : DSpX}
instance [x : XR K fl Ex E] [i : IsCls K c C] [a : SimA K fl t w] : SimS K fl (tRaise C E t) (dRaise c Ex w) := ⟨fun {W ρ μ σ H D' D} r e h k => a.run r e h fun W1 ds μ1 xs H1 le1 r1 q1 h1 => ⟨by rw [q1.length]; exact h1.1, x.run r1 (e.mono le1) h1.2 i.at_⟩⟩
instance [x : XR K fl Ex E] [a : SimA K fl t w] [b : SimA K fl tk wk] [cr : CRep K csD csV] : SimE K fl (tCallX (liftX K dsp) (sel n m pat .non csV) E t tk) (dCallX dsp Ex n m pat csD w wk) := ⟨fun {W ρ μ σ H Q Q'} r e h k =>
  a.run r e h fun W1 ds μ1 xs H1 le1 r1 q1 h1 => b.run r1 (e.mono le1) h1 fun W2 es μ2 ys H2 le2 r2 q2 h2 => ⟨fl, W2, μ2, _, Q, _, r2, sel_reps (cr.run W2) (q1.mono le2) q2, h2, fun W3 d μ3 x H3 le3 => k W3 d μ3 x H3 (le1.trans (le2.trans le3)),
    fun W3 c C μ3 H3 le3 r3 h3 hc => x.run r3 (e.mono (le1.trans (le2.trans le3))) h3 hc⟩⟩
instance {mt : Str} {ta : TE} {wa : DE} [x : XR K fl Ex E] [o : SimE K fl ta wa] [a : SimA K fl t w] [b : SimA K fl tk wk] [cr : CRep K csD csV] : SimE K fl (tMethX K c mt (liftX K dsp) (sel n j pat .non csV) E ta t tk) (dMethX c mt dsp Ex n j pat csD wa w wk) := ⟨fun {W ρ μ σ H Q Q'} r e h k =>
  o.run r e h fun W1 d μ1 xx H1 le1 r1 q1 h1 => by
    obtain ⟨c', C, p, dx, ns, vs, xs, hc, rfl, ea, l, z, rfl, hl⟩ := insM_run r1 q1 h1.1
    refine ⟨C, p, dx, _, hc, rfl, ea, z.lookup_none hl, a.run r1 (e.mono le1) h1.2 fun W2 ds μ2 xs H2 le2 r2 q2 h2 => b.run r2 (e.mono (le1.trans le2)) h2 fun W3 es μ3 ys H3 le3 r3 q3 h3 => ?_⟩
    exact ⟨fl, W3, μ3, _, Q, _, r3, sel_reps (cr.run W3) (.cons (q1.mono (le2.trans le3)) (q2.mono le3)) q3, h3, fun W4 d4 μ4 x4 H4 le4 => k W4 d4 μ4 x4 H4 (le1.trans (le2.trans (le3.trans le4))),
      fun W4 c C μ4 H4 le4 r4 h4 hc => x.run r4 (e.mono (le1.trans (le2.trans (le3.trans le4)))) h4 hc⟩⟩
theorem EnvR.unset {W : Wd} {ρ : DEnv} {σ : St} {i : Nat} (e : EnvR K W ρ σ) : EnvR K W (ρ.set i none) (σ.set i none) := ⟨by simp [e.1], fun j d h => by
  by_cases hj : i = j
  . subst hj
    by_cases hl : i < ρ.length
    . rw [List.getElem?_set_self hl] at h; cases h
    . rw [List.getElem?_eq_none (by simp; omega)] at h; cases h
  . rw [List.getElem?_set_ne hj] at h ⊢
    exact e.2 j d h⟩
theorem EndsR.hEnds {W : Wd} {D' : DEnds} {D : Ends} {i : Nat} (k : EndsR K fl W D' D) : EndsR K fl W (hEndsD D' i) (hEnds D i) :=
  ⟨fun W' ρ μ σ H le r e h => k.nx W' _ μ _ H le r e.unset h, fun W' ρ μ σ H le r e h => k.bk W' _ μ _ H le r e.unset h, fun W' ρ μ σ H le r e h => k.ct W' _ μ _ H le r e.unset h, k.rt⟩
theorem EndsR.lower {W : Wd} {fl' : Wd} {D' : DEnds} {D : Ends} (k : EndsR K fl W D' D) (h : fl.le W) : EndsR K fl' W D' D :=
  ⟨fun W' ρ μ σ H le r e hh => k.nx W' _ μ _ H le (r.floor (h.trans le)) e hh, fun W' ρ μ σ H le r e hh => k.bk W' _ μ _ H le (r.floor (h.trans le)) e hh, fun W' ρ μ σ H le r e hh => k.ct W' _ μ _ H le (r.floor (h.trans le)) e hh, fun W' d μ x H le r e hh => k.rt W' d μ x H le (r.floor (h.trans le)) e hh⟩
end
class IsHd (K : PySem.W.Frag) (es : List Str) (Ch : Addr) : Prop where
  run : ∀ c ∈ es, ∀ C, clsOf K c = some C -> W.exmOne K (.ref C) (.ref Ch) = some true
theorem ETab.hd {K : PySem.W.Frag} {es ps ks hs : List Str} {h : Str} {Ch : Addr} (t : ETab K es ps ks hs) (i : IsCls K h Ch) (hh : h ∈ hs) : IsHd K es Ch := ⟨fun c hc C hC => (t.row hc hC).2.2.2.2 h hh Ch i.at_⟩
structure XP (K : PySem.W.Frag) (fl : Wd) where
  Ex : DXE
  E : St -> XK
  ok : XR K fl Ex E
instance {K : PySem.W.Frag} {fl : Wd} (p : XP K fl) : XR K fl p.Ex p.E := p.ok
instance {K : PySem.W.Frag} {fl : Wd} {es : List Str} {Ch : Addr} {i : Nat} {tb : (St -> XK) -> TS} {th : TS} {wb : DXE -> DS} {wh : DS} [hd : IsHd K es Ch] [b : ∀ fl (p : XP K fl), SimS K fl (tb p.E) (wb p.Ex)] [a : SimS K fl th wh] : SimS K fl (tTry K Ch i tb th) (dTry es i wb wh) := ⟨fun {W ρ μ σ H D' D} r e h k => by
  have xr : XR K W (fun ρ' c μ' => c ∈ es /\ wh (hEndsD D' i) (ρ'.set i (some (.exc c))) μ') (hRun K Ch i th D) := ⟨fun {W1 ρ1 μ1 σ1 H1 c C} r1 e1 h1 hC => ⟨C, rfl, rfl, hd.run c h1.1 C hC, fun p hp => by
    have r1' : Rel K fl W1 μ1 H1 := r1.floor (r.up.trans r1.up)
    obtain ⟨r2, le2⟩ := r1'.newF (o := ExcO p C none) hp
    refine a.run r2 ((e1.mono le2).set (x := .ref p) (d := .exc c) ?_) h1.2 ((k.mono (r1.up.trans le2)).hEnds)
    unfold Rep
    exact ⟨C, p, hC, rfl, upd_same⟩⟩⟩
  exact (b W ⟨_, hRun K Ch i th D, xr⟩).run (r.floor (.refl W)) e h (k.lower r.up)⟩
def bodySpX (w : DXE -> DS) (N : List Str) (n : Nat) : DSpX := fun ds μ Q X0 => ds.length = n /\ w (fun _ c μ' => ∃ μ'', MLe μ'' μ' /\ X0 c μ'') (ends Q) (startD N ds) μ
section
variable {P : Program} {w : World} {K : PySem.W.Frag} {fl : Wd} {mg : Str -> Option Value} {base : Heap}
theorem Fun.okX {x qual : Str} {st : Stmt} {f : Addr} {fd : FuncData} {N ps : List Str} {k n : Nat} (dw : DXE -> DS) (F : Fun K x qual st f fd) (S : FnScope N ps (defScope st)) (len : ps.length = n)
    (hbody : ∀ (cdv : Value) (A : Around) (outer : List Env) (s : Shared) (H : Hp) (E : XK), Room k (A.deeper (envOfC qual (defScope st) s.heap.objs.size f cdv)) ->
      ∃ t, WSs (cxOf (CX1 P w) P w K mg base N qual (defScope st) f cdv A outer s H E) (defBody st) t /\ ∀ fl Ex, XR K fl Ex (fun _ => E) -> SimS K fl t (dw Ex)) : FnOk P w K mg base (CX1 P w) (k + 1) f fd ps (liftX K (bodySpX dw N n)) := by
  obtain ⟨oc, od, kV, doc, pm, an, cdv, ct, osl, rfl, lk, hcd⟩ := F.ex
  refine fn_of lk hcd S (fun vs H Q E h => ?_) fun A outer s H vs Q E hr h => ?_
  . obtain ⟨_, W, μ, ds, Q0, X0, _, r, h, _⟩ := h
    rw [r.length, h.1, len]
  . obtain ⟨fl, W, μ, ds, Q0, X0, rel, r, h, k, kx⟩ := h
    obtain ⟨t, ht, sm⟩ := hbody cdv A outer s H E hr
    refine ⟨t, ht.out, (sm W _ ⟨fun {W1 ρ1 μ1 σ1 H1 c C} r1 e1 ⟨μ'', l, h1⟩ hC => kx W1 c C μ'' H1 r1.up ((r1.floor (rel.up.trans r1.up)).less l) h1 hC⟩).run (rel.floor (.refl W)) (.start r) h.2 ⟨fun W' ρ μ σ H le rr ee hh => ?_, fun _ _ _ _ _ _ _ _ hh => hh.elim, fun _ _ _ _ _ _ _ _ hh => hh.elim, fun W' d μ x H le rr ee hh => ?_⟩⟩
    . obtain ⟨μ'', l, hh⟩ := hh
      exact k W' .non μ'' _ H le ((rr.floor (rel.up.trans le)).less l) .n hh
    . obtain ⟨μ'', l, hh⟩ := hh
      exact k W' d μ'' x H le ((rr.floor (rel.up.trans le)).less l) ee hh
end
section
variable {X : Cx} {E : St -> XK}
theorem qs_raise {x : Str} {C : Addr} {np cpos pos : Pos} {a : Expr} {as : List Expr} {t : TA} (xm : XMk X E) (hm : X.mg x = some (.ref C)) (hC : W.excIn X.K C bmV newV = true) (ha : WA X (a :: as) t) (hc : X.calm = true := by rfl) (hg : Gl X x := by rfl) (hdb : (x == ("__debug__" : Str)) = false := by decide)
    (hst : ∃ y r, backTo cpos (starEach (a :: as) X.env) = (false, y) :: r := by exact ⟨_, _, rfl⟩) (hpl : (backTo cpos (starEach (a :: as) X.env)).any (·.1) = false := by rfl) :
    WS X (.Raise (some (.Call (.Name x np) (a :: as) [] cpos)) none pos) (tRaise C E t) := ⟨ps_raise xm hc hg hm hC ha.out hdb hst hpl⟩
theorem qs_try {i : Nat} {n x : Str} {Ch : Addr} {body suite : List Stmt} {b₀ : Stmt} {np hpos pos : Pos} {tb : (St -> XK) -> TS} {th : TS} (K : PySem.W.Frag) (hN : X.N.Nodup) (hm : X.mg x = some (.ref Ch))
    (hb : ∀ E xe pn, XOk (X.tr xe pn) E -> WSs (X.tr xe pn) body (tb E)) (hh : ∀ a, WSs (X.hand a) (b₀ :: suite) th) (hK : X.K = K := by rfl) (hx : X.ex = [] := by rfl) (hs : X.stack = X.env :: X.outer := by rfl) (hL : X.env.frame = some X.env.locals := by rfl) (hi : X.N[i]? = some n := by rfl) (hn : X.env.scope.names.lookup n = some .local := by rfl) (hg : Gl X x := by rfl) (hdb : (x == ("__debug__" : Str)) = false := by decide) :
    WS X (.Try body [.ExceptHandler (some (.Name x np)) (some n) (b₀ :: suite) hpos] [] [] pos) (tTry K Ch i tb th) := hK ▸ ⟨ps_try hx hs hL hN hi hn hg hm (fun E xe pn xo => (hb E xe pn xo).out) (fun a => (hh a).out) hdb⟩
end
end L2

namespace L2
open PySem PySem.Spec PyProof.Rows
theorem bb_ValueError : bootBuiltins "ValueError" = some (.type "ValueError") := by decide +kernel
section
variable {P : Program} {w : World} {K : PySem.W.Frag} {mg : Str -> Option Value} {base : Heap}
end
section
variable {P : Program} {w : World} {K : PySem.W.Frag} {mg : Str -> Option Value} {base : Heap} {N : List Str} {qual : Str} {scope : Scope} {f : Addr} {cd : Value} {A : Around} {outer : List Env} {s : Shared} {H : Hp} {E : XK} {cm : Bool}
theorem po_cx : PassesOwn (model (cxOf (CX1 P w) P w K mg base N qual scope f cd A outer s H E cm).prog (cxOf (CX1 P w) P w K mg base N qual scope f cd A outer s H E cm).w) (cxOf (CX1 P w) P w K mg base N qual scope f cd A outer s H E cm).A (cxOf (CX1 P w) P w K mg base N qual scope f cd A outer s H E cm).env (cxOf (CX1 P w) P w K mg base N qual scope f cd A outer s H E cm).xe := .leaving
end
section
variable {K : PySem.W.Frag} {fl : Wd}
end
theorem e_isE1 {es ks : List Str} {c k : Str} {μ : Mu} {Q : DK} : dIsE es ks [.exc c, .cls k] μ Q = (c ∈ es /\ k ∈ ks /\ Q (.bl (c == k)) μ) := rfl
theorem e_isE2 {es ks : List Str} {c : Str} {n : String} {μ : Mu} {Q : DK} : dIsE es ks [.exc c, .ty n] μ Q = (c ∈ es /\ n = "ValueError" /\ Q (.bl true) μ) := rfl
def dIsB : DR2 := fun d e μ Q => match d, e with
  | .int _, .bl _ => Q (.bl false) μ
  | .bl a, .bl b => Q (.bl (a == b)) μ
  | _, _ => False
theorem e_isBi {i : Int} {b : Bool} {μ : Mu} {Q : DK} : dIsB (.int i) (.bl b) μ Q = Q (.bl false) μ := rfl
theorem e_isBb {a b : Bool} {μ : Mu} {Q : DK} : dIsB (.bl a) (.bl b) μ Q = Q (.bl (a == b)) μ := rfl
end L2

namespace L2
open PySem PySem.Spec PyProof.Rows
section
variable {X : Cx} {E : St -> XK} {j k : Nat} {f C : Addr} {fd : FuncData} {ps ks : List Str} {sp : Sp} {c : Str} {p pos : Pos} {e : Expr} {es : List Expr} {t tk : TA} {kws : List Keyword} {g : List Value -> List Value -> List Value} {gV : List V -> List V -> List V}
end
def dMakeX (c : Str) (dsp : DSpX) (Ex : DXE) (n j : Nat) (pat : List Src) (cs : List D) (w wk : DA) : DE := fun ρ μ Q => w ρ μ fun ds μ1 => wk ρ μ1 fun es μ2 => ∀ k, μ2 k = none -> dsp (sel n j pat .non cs (.cell k :: ds) es) (mset μ2 k (.ins c [] [])) (fun d μ3 => d = .non /\ Q (.cell k) μ3) (fun x μ3 => ∃ μ4, MLe μ4 μ3 /\ Ex ρ x μ4)
def dMakeFX (c : Str) (dsp : DSpX) (Ex : DXE) (n j : Nat) (pat : List Src) (cs : List D) (w wk : DA) : DE := fun ρ μ Q => w ρ μ fun ds μ1 => wk ρ μ1 fun es μ2 => ∀ k, μ2 k = none -> dsp (sel n j pat .non cs (.cell k :: ds) es) (mset μ2 k (.ins c [] [])) (fun d μ3 => d = .non /\ frzD μ3 (.cell k) Q) (fun x μ3 => ∃ μ4, MLe μ4 μ3 /\ Ex ρ x μ4)
section
variable {K : PySem.W.Frag} {fl : Wd} {Ex : DXE} {E : St -> XK} {c : Str} {dsp : DSpX} {n j : Nat} {pat : List Src} {csD : List D} {csV : List V} {t tk : TA} {w wk : DA}
end
def dMulB : DR2 := fun d e μ Q => match d, e with
  | .int i, .bl b => Q (.int (i * if b = true then 1 else 0)) μ
  | d, e => dMul2 d e μ Q
theorem e_mulBb {i : Int} {b : Bool} {μ : Mu} {Q : DK} : dMulB (.int i) (.bl b) μ Q = Q (.int (i * if b = true then 1 else 0)) μ := rfl
theorem e_mulBi {i j : Int} {μ : Mu} {Q : DK} : dMulB (.int i) (.int j) μ Q = (CMul i j /\ Q (.int (i * j)) μ) := rfl
end L2

namespace L2
open PySem PySem.Spec PyProof.Rows
abbrev TJ := St -> Hp -> Str -> (Str -> Hp -> Prop) -> Prop
section
variable {X : Cx} {e e2 : Expr} {es : List Expr} {te : TE} {t : TJ} {pos : Pos}
end
abbrev DJ := DEnv -> Mu -> Str -> (Str -> Mu -> Prop) -> Prop
def djNil : DJ := fun _ μ acc R => R acc μ
def djCons (w : DE) (r : DJ) : DJ := fun ρ μ acc R => w ρ μ fun d μ1 => match d with
  | .str y => (acc ++ y).length <= sizeLine /\ r ρ μ1 (acc ++ y) R
  | _ => False
def dFmt (w : DE) : DE := fun ρ μ Q => w ρ μ fun d μ1 => match d with
  | .str y => y.length <= sizeLine /\ Q (.str y) μ1
  | _ => False
def dFStr (l : DJ) : DE := fun ρ μ Q => l ρ μ Str.empty fun out μ1 => out.length <= sizeLine /\ Q (.str out) μ1
section
variable {K : PySem.W.Frag} {fl : Wd} {te : TE} {we : DE} {t : TJ} {w : DJ}
end
end L2

namespace L2
open PySem PySem.Spec PyProof.Rows
section
variable {X : Cx} {tg iter elt : Expr} {ifs : List Expr} {scope : Scope} {pos : Pos} {own free : List Str} {fr : List Nat}
theorem comp_runX {pins : List (Addr × Obj)} {σ : St} {H2 : Hp} {s2 : Shared} {J : It} {fp : List Addr} {it : Addr} {tn : Nat -> Heap -> Prop} {g : TG} {tc : TT} {te : (St -> XK) -> TE} {Eo : XK} {Fin : List V -> Hp -> Prop} {W : Nat -> Nat -> List V -> Hp -> Prop} {m0 : Nat}
    {RR : Value -> Addr -> Result -> Shared -> Prop} {E : Value -> Shared -> Prop}
    (S : CompSc X scope) (hc : X.calm = true) (hfr : fr.map (fun j => X.N[j]?) = free.map some) (hff : ∀ x ∈ free, scope.names.lookup x = some .free)
    (hg : ∀ C s H ex, PG (compCx X (own ++ free) scope C s H ex) tg g) (ht : ∀ C s H ex, PTs (compCx X (own ++ free) scope C s H ex) ifs tc) (he : ∀ C s H ex xe pn, XOk ((compCx X (own ++ free) scope C s H ex).tr xe pn) (fun _ => Eo) -> PE ((compCx X (own ++ free) scope C s H ex).tr xe pn) elt (te fun _ => Eo))
    (I2 : Inv X pins σ H2 s2) (T : Turn X.prog X.w X.K tg J fp it tn) (st2 : tn 0 s2.heap) (f2 : ∀ b ∈ fp, FpOk X pins H2 b)
    (w0 : W 0 m0 [] H2) (turn : CompTurns J g tc (te fun _ => Eo) (own.map (fun _ => none) ++ takeFrom σ fr) Fin W)
    (hRR : ∀ D C its n ys H' s', Inv (compCx X (own ++ free) scope C s2 H2 fp) [(D, lobj its n)] (own.map (fun _ => none) ++ takeFrom σ fr) H' s' -> Vals ys its -> ys.length <= sizeLine -> Fin ys H' -> s2.heap.objs.size <= D -> RR (.ref D) C (.ok .next) s')
    (hErr : ∀ D C pins' σ' H' s' g e Cx dx, s2.heap.objs.size <= D -> Inv (compCx X (own ++ free) scope C s2 H2 fp) pins' σ' H' s' -> Fr0 (compCx X (own ++ free) scope C s2 H2 fp) pins' g -> (∀ b, s'.heap.get? b = none -> g.get? b = none) -> Fly g H' s'.heap e Cx dx .none -> Eo (.ref Cx) dx H' -> notedBy (model X.prog X.w) X.A (compEnv2 scope C X.env) (fun x s'' => RR (.ref D) C (.error x) s'') (.ref e) s') :
    wpAny (model X.prog X.w) X.A (newList []) (fun acc s₃ => wpAny (model X.prog X.w) X.A (newFunctionEnv scope X.env.globals (closOf X.env scope.names []) [] X.env.qual none .none (some X.env)) (fun cenv s₄ =>
      codeAny (model X.prog X.w) X.A (.compStart (.ListComp elt [⟨tg, iter, ifs, 0⟩] scope pos) 0 (.ref it) acc { cenv with scope := relabel scope X.env }) (RR acc cenv.locals) s₄) E s₃) E s2 := by
  refine wpAny_newObj_type (newCompEnv ?_)
  have hob : ∀ b ∈ fp, ∃ o, s2.heap.get? b = some o := fun b hb => by obtain ⟨o, e, _⟩ := T.obj _ _ st2 b hb; exact ⟨o, e⟩
  have fplt : ∀ b ∈ fp, b < s2.heap.objs.size := fun b hb => by obtain ⟨o, e⟩ := hob b hb; exact Heap.lt_size e
  generalize hs3 : ({ s2 with heap := s2.heap.push { cls := .type "list", dict := none, data := .seq ([] : List Value).toArray } } : Shared) = s3
  have hh3 : s3.heap = s2.heap.push (lobj [] 0) := by rw [<- hs3]
  have hC : s3.heap.objs.size = s2.heap.objs.size + 1 := by rw [hh3, Heap.size_push]
  have keep3 : ∀ b o, s2.heap.get? b = some o -> s3.heap.get? b = some o := fun b o e => by rw [hh3]; exact Heap.get?_push_of_some _ e
  have I3 := comp_inv (own := own) (ex := fp) (s3 := s3) S I2 f2 hob hfr hff keep3 (by rw [hC]; exact Nat.le_succ _) (by rw [<- hs3]) (by rw [<- hs3])
  generalize hs4 : ({ s3 with heap := pushCells (s3.heap.push { cls := .type "dict", data := .dict #[] }) scope.names } : Shared) = s4 at I3
  have keep4 : ∀ b o, s3.heap.get? b = some o -> s4.heap.get? b = some o := fun b o e => by rw [<- hs4]; exact pushCells_keeps _ _ b o (Heap.get?_push_of_some _ e)
  have hD4 : s4.heap.get? s2.heap.objs.size = some (lobj [] 0) := keep4 _ _ (by rw [hh3]; exact Heap.get?_push_size _ rfl)
  have nf : s2.heap.objs.size ∉ frs X.stack := fun hb => by
    obtain ⟨_, o, e, _⟩ := I2.stack.mem hb
    exact absurd (Heap.lt_size e) (Nat.lt_irrefl _)
  have hDC : s2.heap.objs.size ≠ s3.heap.objs.size := by rw [hC]; exact Nat.ne_of_lt (Nat.lt_succ_self _)
  -- the cells of the block are no list
  have cellD : ∀ {P : List (Addr × Obj)} {σ' H' s'} {its : List Value} {n : Nat}, Inv (compCx X (own ++ free) scope s3.heap.objs.size s2 H2 fp) P σ' H' s' -> s'.heap.get? s2.heap.objs.size = some (lobj its n) -> ∀ x c, (compEnv2 scope s3.heap.objs.size X.env).cells.lookup x = some c -> c ≠ s2.heap.objs.size := fun I e x c hc z => by
    obtain ⟨v, o, eo, ed⟩ := I.cell x c hc
    rw [z, e] at eo
    cases eo
    cases ed
  have pinD : ∀ {σ' H' s'} {its : List Value} {n : Nat}, Inv (compCx X (own ++ free) scope s3.heap.objs.size s2 H2 fp) [] σ' H' s' -> s'.heap.get? s2.heap.objs.size = some (lobj its n) -> H' s2.heap.objs.size = none ->
      Inv (compCx X (own ++ free) scope s3.heap.objs.size s2 H2 fp) [(s2.heap.objs.size, lobj its n)] σ' H' s' := fun {σ' H' s' its n} I e hn => I.pins_of fun p hp => by
    have hp' : p = (s2.heap.objs.size, lobj its n) := List.mem_singleton.mp hp
    subst hp'
    exact ⟨e, hn, hDC, nf, fun v => by intro z; cases z⟩
  have I4 := pinD I3 hD4 (I2.hok.fresh (Nat.le_refl _))
  have fpOk : ∀ {σ' H' s'} {its : List Value} {n : Nat}, Inv (compCx X (own ++ free) scope s3.heap.objs.size s2 H2 fp) [(s2.heap.objs.size, lobj its n)] σ' H' s' -> (∀ b ∈ fp, H' b = none) -> ∀ b ∈ fp, FpOk (compCx X (own ++ free) scope s3.heap.objs.size s2 H2 fp) [(s2.heap.objs.size, lobj its n)] H' b := fun {σ' H' s' its n} I hn b hb => by
    refine ⟨hn b hb, (I.ok.exf b hb).1, I.ok.exfs b hb, .inl hb, (I.ok.exf b hb).2, fun p hp => ?_⟩
    have hp' : p = (s2.heap.objs.size, lobj its n) := List.mem_singleton.mp hp
    subst hp'
    exact Ne.symm (Nat.ne_of_lt (fplt b hb))
  have stn4 : tn 0 s4.heap := T.keep _ _ _ st2 fun b hb o e => keep4 b o (keep3 b o e)
  have loop : ∀ s', s' = s4 -> codeAny (model X.prog X.w) X.A (.compLoop (.ListComp elt [⟨tg, iter, ifs, 0⟩] scope pos) 0 (.ref it) (.ref s2.heap.objs.size) (compEnv2 scope s3.heap.objs.size X.env)) (RR (.ref s2.heap.objs.size) s3.heap.objs.size) s' := by
    rintro s' rfl
    refine compLoop_any (fun k s' => ∃ i ys its n H', Inv (compCx X (own ++ free) scope s3.heap.objs.size s2 H2 fp) [(s2.heap.objs.size, lobj its n)] (own.map (fun _ => none) ++ takeFrom σ fr) H' s' /\ tn i s'.heap /\ (∀ b ∈ fp, H' b = none) /\ Vals ys its /\ ys.length <= sizeLine /\ W i k ys H') ?_ m0
      ⟨0, [], [], 0, H2, I4, stn4, fun b hb => (f2 b hb).1, .nil, Nat.zero_le _, w0⟩
    rintro k s5 ⟨i, ys, its, n, H5, I5, st5, fr5, r5, len5, w5⟩
    rcases turn i k ys H5 w5 with ⟨stop, fin⟩ | ⟨go, hlt, N, hN, step⟩
    . refine wpAny_mono (T.done (compCx X (own ++ free) scope s3.heap.objs.size s2 H2 fp) rfl rfl rfl hc i _ s5 _ H5 (fun _ _ => False) I5 (fpOk I5 fr5) st5 stop) (fun r s6 ⟨hr, I6⟩ => ?_) fun _ _ f => f.elim
      subst hr
      exact hRR _ _ its n ys H5 s6 I6 r5 len5 fin (Nat.le_refl _)
    . refine wpAny_mono (T.item (compCx X (own ++ free) scope s3.heap.objs.size s2 H2 fp) rfl rfl rfl hc i _ s5 _ H5 (fun _ _ => False) I5 (fpOk I5 fr5) st5 go) (fun r s6 ⟨u, hr, h6⟩ => ?_) fun _ _ f => f.elim
      subst hr
      refine wpAny_mono h6 (fun _ s7 ⟨x, H7, I7, r7, y7, st7, fr7⟩ => ?_) fun _ _ f => f.elim
      have I7' := I7.pinned (fpOk I7 fr7) (T.obj _ _ st7)
      refine wpAny_mono (hg _ _ _ _ _ s7 _ H7 x u _ I7' r7 (step x H7 y7)) (fun _ s8 ⟨σ8, H8, I8, sub8, q8⟩ => ?_) fun _ _ f => f.elim
      refine wpAny_mono (ht _ _ _ _ _ s8 σ8 H8 _ I8 q8) (fun b s9 ⟨H9, I9, q9⟩ => ?_) fun _ _ f => f.elim
      have back : ∀ {H' s'}, Inv (compCx X (own ++ free) scope s3.heap.objs.size s2 H2 fp) ([(s2.heap.objs.size, lobj its n)] ++ pinsAt fp s7.heap) σ8 H' s' -> tn (i + 1) s'.heap /\ (∀ b ∈ fp, H' b = none) := fun {H' s'} I => by
        refine ⟨T.keep _ _ _ st7 fun b hb o e => (I.pin (b, o) (List.mem_append_right _ (List.mem_append_right _ (mem_pinsAt hb e)))).1, fun b hb => ?_⟩
        obtain ⟨o, e, d⟩ := T.obj _ _ st7 b hb
        exact (I.pin (b, o) (List.mem_append_right _ (List.mem_append_right _ (mem_pinsAt hb e)))).2.1
      cases b with
      | false =>
        obtain ⟨m', hm, w9⟩ := hN _ _ q9
        obtain ⟨st9, fr9⟩ := back I9
        exact ⟨m', hm, i + 1, ys, its, n, H9, I9.unpinned.weak sub8.1 sub8.2, st9, fr9, r5, len5, w9⟩
      | true =>
        have xok : XOk ((compCx X (own ++ free) scope s3.heap.objs.size s2 H2 fp).tr (notedBy (model X.prog X.w) X.A (compEnv2 scope s3.heap.objs.size X.env) fun x s'' => RR (.ref s2.heap.objs.size) s3.heap.objs.size (.error x) s'') ((compCx X (own ++ free) scope s3.heap.objs.size s2 H2 fp).pn ++ ([(s2.heap.objs.size, lobj its n)] ++ pinsAt fp s7.heap))) (fun _ => Eo) := ⟨fun b hb => by
          obtain ⟨o, e, d⟩ := T.obj _ _ st7 b hb
          exact ⟨o, List.mem_append_right _ (List.mem_append_right _ (mem_pinsAt hb e))⟩, fun {pins' σ' H' s' g' e Cx dx} I F0 hg' F hE => hErr _ _ _ _ _ _ _ _ _ _ (Nat.le_refl _) I.untr F0.untr hg' F hE⟩
        refine wpAny_mono (he _ _ _ _ _ _ xok [] s9 σ8 H9 _ I9.tr q9) (fun v s10 ⟨y, H10, I10t, r10, q10⟩ => ?_) fun _ _ f => f
        have I10 := I10t.untr
        obtain ⟨m', hm, w10⟩ := hN _ _ q10
        obtain ⟨st10, fr10⟩ := back I10
        have pD := I10.pin (s2.heap.objs.size, lobj its n) (List.mem_append_right _ (List.mem_append_left _ List.mem_cons_self))
        refine append_at (hsz := by rw [List.size_toArray, <- r5.length]; exact len5) pD.1 fun h' hsb hnew => ?_
        have J0 : Inv (compCx X (own ++ free) scope s3.heap.objs.size s2 H2 fp) (pinsAt fp s7.heap) σ8 H10 s10 := I10.pins_of fun p hp => I10.pin p (by
          have hp' : p ∈ pinsAt fp s7.heap := by simpa [compCx] using hp
          exact List.mem_append_right _ (List.mem_append_right _ hp'))
        have J1 : Inv (compCx X (own ++ free) scope s3.heap.objs.size s2 H2 fp) (pinsAt fp s7.heap) σ8 H10 { s10 with heap := h' } := J0.turned (it := s2.heap.objs.size) (t' := s10.toks) (fun b o hb e => hsb.extBut b o hb e) pD.2.1 hDC (.inr (Nat.le_refl _)) (cellD J0 pD.1) (fun p hp => by
          have hp' : p ∈ pinsAt fp s7.heap := by simpa [compCx] using hp
          exact Nat.ne_of_lt (fplt _ (of_pinsAt hp').1))
        have J2 : Inv (compCx X (own ++ free) scope s3.heap.objs.size s2 H2 fp) [] σ8 H10 { s10 with heap := h' } := J1.pins_of fun p hp => absurd hp (by simp [compCx])
        have st11 : tn (i + 1) h' := T.keep _ _ _ st10 fun b hb o e => hsb.extBut b o (Nat.ne_of_lt (fplt b hb)) e
        have e11 : h'.get? s2.heap.objs.size = some (lobj (its ++ [v]) (n + 1)) := by rw [hnew, List.push_toArray]
        refine ⟨m', hm, i + 1, ys ++ [y], its ++ [v], n + 1, H10, (pinD J2 e11 pD.2.1).weak sub8.1 sub8.2, st11, fr10, r5.append (.cons r10 .nil), ?_, w10⟩
        rw [List.length_append, List.length_singleton]
        exact hlt
  refine codeAny_compStart_list (loop _ rfl) (T.self X.A 0 _ _ _ stn4 (loop _ rfl))

theorem comp_out0 {pins P : List (Addr × Obj)} {σ σ' : St} {H2 H' : Hp} {s2 s' : Shared} {fp : List Addr} {C : Addr} {N : List Str} {h'' : Heap}
    (I2 : Inv X pins σ H2 s2) (f2 : ∀ b ∈ fp, FpOk X pins H2 b) (I : Inv (compCx X N scope C s2 H2 fp) P σ' H' s') (hs : Heap.SameBut C s'.heap h'') : Inv X pins σ H' { s' with heap := h'' } := by
  have hCs : s2.heap.objs.size <= C := I.ok.above
  have u : Un (frs X.stack) fp H2 H' s2.heap s'.heap := I.base
  have lt2 : ∀ b o, s2.heap.get? b = some o -> b ≠ C := fun b o e => Nat.ne_of_lt (Nat.lt_of_lt_of_le (Heap.lt_size e) hCs)
  have hC' : ∀ b o, H' b = some o -> b ≠ C := fun b o e z => by
    have := I.free
    rw [show (compCx X N scope C s2 H2 fp).env.locals = C from rfl, <- z, e] at this
    cases this
  have hok1 : HOk X.prog X.w H' h'' := fun a o e => (I.hok a o e).stay (fun b ob hb eb => by
      rcases hb with hb | hb
      . rw [hb]; rw [hb] at eb; exact hs.extBut _ _ (hC' a o e) eb
      . exact hs.extBut _ _ (hC' b _ hb) eb) (fun _ h => h) (fun _ _ h => h)
  have u2 : Un (frs X.stack) fp H2 H' s2.heap h'' :=
    { keep := fun b o e hn hf hx => hs.extBut b o (lt2 b o e) (u.keep b o e hn hf hx)
      slot := fun b o e hn hf hx => by
        obtain ⟨sl, q⟩ := u.slot b o e hn hf hx
        exact ⟨sl, hs.extBut b _ (lt2 b o e) q⟩
      free := u.free
      there := fun b o e hx => by
        obtain ⟨o', q⟩ := u.there b o e hx
        exact ⟨o', hs.extBut b _ (lt2 b o e) q⟩
      tups := u.tups
      frzs := u.frzs
      tbls := u.tbls }
  refine I2.call' (s' := { s' with heap := h'' }) (ch := fp) I.os u2 hok1 I.bare fun b hb => ?_
  have q := f2 b hb
  exact ⟨q.2.2.2.1, q.2.1, q.2.2.2.2.1, q.2.2.2.2.2⟩
theorem comp_err {pins pins' : List (Addr × Obj)} {σ σ' : St} {H2 H' : Hp} {s2 s' : Shared} {fp : List Addr} {C e Cx : Addr} {dx : Option Addr} {N : List Str} {g : Heap} {E : St -> XK} {use : Option (Value -> Sem Unit)} {Q : Value -> Shared -> Prop} {acc : Value}
    (xl : XLv X E) (hs : X.stack = X.env :: X.outer) (hL : X.env.frame = some X.env.locals)
    (I2 : Inv X pins σ H2 s2) (f2 : ∀ b ∈ fp, FpOk X pins H2 b) (I : Inv (compCx X N scope C s2 H2 fp) pins' σ' H' s') (F0 : Fr0 (compCx X N scope C s2 H2 fp) pins' g) (hg : ∀ b, s'.heap.get? b = none -> g.get? b = none)
    (F : Fly g H' s'.heap e Cx dx .none) (hE : E σ (.ref Cx) dx H') :
    notedBy (model X.prog X.w) X.A (compEnv2 scope C X.env) (fun x s'' => compPost (model X.prog X.w) X.A X.xe use Q acc C (.error x) s'') (.ref e) s' := by
  show wpAny _ X.A (noteFrame (.ref e) X.env) _ _ s'
  have hfr : X.A.frames = some (X.env :: X.outer) := by rw [<- hs]; exact I2.ok.frames
  have ff : s'.heap.FunFrames X.base (X.env :: X.outer) := by
    have := I.stack
    rw [<- hs]; exact this
  have fE : frs (X.env :: X.outer) = frs X.stack := by rw [hs]
  refine fly_note (P := X.prog) (w := X.w) hfr hL ff I.hok hg F fun h2 F2 S2 => ?_
  rw [fE] at S2
  have I3 := I.noted (t' := s'.toks) F0 S2
  obtain ⟨m, hm, _⟩ := I3.loc
  refine ⟨m, hm, fun h3 sb cenv hce => ?_⟩
  obtain ⟨oe, vs, T, oT, ts, e1, e2, e3, e4, e5, e6, e7, e8, e9, e10, e11, e12, e13⟩ := F2
  have hCg : g.get? C ≠ none := F0.loc
  have neC : ∀ b, g.get? b = none -> b ≠ C := fun b hb z => hCg (z ▸ hb)
  have F3 : Fly g H' h3 e Cx dx (rawInt X.env.locals) := ⟨oe, vs, T, oT, ts, (sb.2 e (neC e e12)).trans e1, e2, e3, e4, e5, e6, (sb.2 T (neC T e13)).trans e7, e8, e9, e10, e11, e12, e13⟩
  have I4 := comp_out0 I2 f2 I3 sb
  have ff4 : h3.FunFrames X.base X.stack := I4.stack
  unfold PySem.passOn
  obtain ⟨oe', vs', T', oT', ts', k1, k2, k3, k4, k5, k6, k7⟩ := id F3
  refine wpAny_bind (wpAny_field k1 k4 k5 ?_)
  refine (show wpAny _ X.A (setFlight (.ref e) cenv.frame >>= fun _ => (throw (.ref e) : Sem Value)) _ _ _ from ?_)
  refine wpAny_bind (fly_mark ff4 F3 fun h4 f' F4 S4 => ?_)
  have F0x : Fr0 X pins g := by
    have F2x : Fr0 X pins s2.heap := I2.fr0 fun b z => by rw [xl.ex] at z; cases z
    have old : ∀ b, s2.heap.get? b ≠ none -> g.get? b ≠ none := fun b hb => by
      cases r : s2.heap.get? b with
      | none => exact absurd r hb
      | some o => exact F0.old b o r
    exact ⟨old _ F2x.loc, fun x c ec => old _ (F2x.cell x c ec), fun p hp => old _ (F2x.pin p hp), fun b o eb => old _ (F2x.old b o eb)⟩
  have I5 := I4.noted (t' := s'.toks) F0x S4
  refine wpAny_throw ?_
  have F2x : Fr0 X pins s2.heap := I2.fr0 fun b z => by rw [xl.ex] at z; cases z
  have og : ∀ b, g.get? b = none -> s2.heap.get? b = none := fun b hb => by
    cases r : s2.heap.get? b with
    | none => rfl
    | some o => exact absurd hb (F0.old b o r)
  refine xl.fly I5 F2x (fun b hb => ?_) (F4.old og) hE
  cases r : s2.heap.get? b with
  | none => rfl
  | some o =>
    exfalso
    have gb : g.get? b ≠ none := F0.old b o r
    have st : ∀ {h h' : Heap} {fs : List Addr}, Stays g H' fs h h' -> h.get? b ≠ none -> h'.get? b ≠ none := fun {h h' fs} S z => by
      cases r2 : h.get? b with
      | none => exact absurd r2 z
      | some o2 =>
        by_cases hf : b ∈ fs
        . obtain ⟨sl, e⟩ := S.slot b o2 r2 hf
          rw [e]; simp
        . rw [S.keep b o2 r2 hf (.inr gb)]; simp
    have b1 : s'.heap.get? b ≠ none := fun z => gb (hg b z)
    have b2 := st S2 b1
    have bC : b ≠ C := fun z => by
      have h1 : s2.heap.objs.size <= C := I.ok.above
      exact absurd (Heap.lt_size r) (by rw [z]; exact Nat.not_lt.mpr h1)
    have b3 : h3.get? b ≠ none := by rw [sb.2 b bC]; exact b2
    exact st S4 b3 hb

def tCompX (own : List Str) (fr : List Nat) (wi : TI) (g : TG) (tc : TT) (te : (St -> XK) -> TE) (E : St -> XK) : TE := fun σ H Q => wi σ H fun J H1 => ∃ W : Nat -> Nat -> List V -> Hp -> Prop, (∃ m, W 0 m [] H1) /\
  CompTurns J g tc (te fun _ => E σ) (own.map (fun _ => none) ++ takeFrom σ fr) (fun ys H' => ∀ p, H' p = none -> Q (.ref p) (upd H' p (.lst ys))) W
theorem ps_setCX {wi : TI} {g : TG} {tc : TT} {te : (St -> XK) -> TE} {E : St -> XK} {i : Nat} {x : Str} {pos' spos : Pos} (own free : List Str) (fr : List Nat) (hN : X.N.Nodup) (hx : X.N[i]? = some x) (hl : X.env.scope.names.lookup x = some .local)
    (S : CompSc X scope) (hc : X.calm = true) (hfr : fr.map (fun j => X.N[j]?) = free.map some) (hff : ∀ x ∈ free, scope.names.lookup x = some .free)
    (hi : PI X tg iter wi)
    (hg : ∀ C s H ex, PG (compCx X (own ++ free) scope C s H ex) tg g) (ht : ∀ C s H ex, PTs (compCx X (own ++ free) scope C s H ex) ifs tc) (he : ∀ C s H ex xe pn E, XOk ((compCx X (own ++ free) scope C s H ex).tr xe pn) E -> PE ((compCx X (own ++ free) scope C s H ex).tr xe pn) elt (te E)) (xl : XLv X E) (hst : X.stack = X.env :: X.outer) (hL : X.env.frame = some X.env.locals)
    (hsw : swapsWith (.ListComp elt [⟨tg, iter, ifs, 0⟩] scope pos) (some (.Name x pos')) spos.line X.env = pure true := by rfl)
    (hs : ∀ x, foldedSetIterable iter X.env x = pure x := by intro _; rfl) :
    PS X (.Assign [.Name x pos'] (.ListComp elt [⟨tg, iter, ifs, 0⟩] scope pos) spos) (tAsg (tCompX own fr wi g tc te E) (gName i)) := by
  intro pins s σ H D0 I h
  have hcl : closureFor scope X.env = pure (closOf X.env scope.names []) := closureFor_of fun x hx e => by
    obtain ⟨c, hc⟩ := I.ok.has x.1 (S.free x hx e)
    rw [hc]; rfl
  rw [exec_Assign_Name_used _ _ _ _ hsw]
  refine wpAny_bind (wpAny_standAt (wpAny_bind ?_))
  show wpAny _ X.A (do let _ <- comprehension (.ListComp elt [⟨tg, iter, ifs, 0⟩] scope pos) scope X.env _ (newList []) false (eval iter X.env) (some (assign (.Name x pos') X.env))) _ _ s
  refine wpAny_bind (thn (wpAny_comprehension_free (use := some (assign (.Name x pos') X.env)) (Q := fun _ s' => SP X pins D0 .next s') rfl hs hcl S.kind (fun x hx e => by have := lookup_uniq S.nd (show (x.1, x.2) ∈ scope.names from hx); rw [this, e])
    (thn (hi pins s σ H _ I h) fun v s1 h1 => thn h1 fun itv s2 h2 => ?_)) (fun _ s' hq => wpAny_pure (wpAny_pure hq)))
  obtain ⟨it, fp, tn, J, H2, e, I2, T, st2, f2, W, ⟨m0, w0⟩, turn⟩ := h2
  subst e
  refine comp_runX (RR := fun acc C => compPost (model X.prog X.w) X.A X.xe (some (assign (.Name x pos') X.env)) (fun _ s' => SP X pins D0 .next s') acc C) S hc hfr hff hg ht (fun C s H ex xe pn xo => he C s H ex xe pn _ xo) I2 T st2 f2 w0 turn ?_ fun D C pins' σ' H' s' g' e Cx dx hD I' F0 hg' F hE => comp_err xl hst hL I2 f2 I' F0 hg' F hE
  intro D C its n ys H' s' I' r hz fin hD
  obtain ⟨m, hm, _⟩ := I'.loc
  obtain ⟨J', hn⟩ := comp_out I2 f2 I' r hz hD (Heap.SameBut.refl C s'.heap)
  show wpAny _ _ (assign (.Name x pos') X.env (.ref D)) _ _ _
  have hCx : (compCx X (own ++ free) scope C s2 H2 fp).env.locals = C := rfl
  have hCl : C ≠ X.env.locals := by
    have := I2.lt
    have h2 : s2.heap.objs.size <= C := I'.ok.above
    exact Ne.symm (Nat.ne_of_lt (Nat.lt_of_lt_of_le this h2))
  refine wpAny_assign_Name (store_ok2 (s := { s' with heap := s'.heap }) J' hN hx (.inl hl) (show RelV (.ref D) (.ref D) from rfl) (fun s3 I3 ⟨a, sb, ha⟩ => ?_) (.inr hl))
  have haC : C ≠ a := by
    rcases ha with rfl | ha
    . exact hCl
    . intro z
      obtain ⟨v, o, eo, _⟩ := I2.cell x a ha
      have h2 : s2.heap.objs.size <= C := I'.ok.above
      have := Heap.lt_size eo
      rw [<- z] at this
      exact absurd this (Nat.not_lt.mpr h2)
  have nsC : s3.heap.Ns C m := hm.sameBut sb haC
  refine ⟨m, nsC, fun h'' hsb => ?_⟩
  refine ⟨_, _, ?_, fin D hn⟩
  have hC2 : s2.heap.objs.size <= C := I'.ok.above
  -- the block's own names are an object that nothing tracks
  have hCn : (upd H' D (.lst ys)) C = none := by
    rw [upd_ne (fun z => ?_)]
    . exact I'.free
    . exact (I'.pin (D, lobj its n) (List.mem_append_right _ List.mem_cons_self)).2.2.1 z.symm
  have := I3.turned (it := C) (h' := h'') (t' := s3.toks) (fun b o hb e => hsb.extBut b o hb e) hCn hCl (.inr (Nat.le_trans I2.sz hC2)) (fun y c hc z => by
      obtain ⟨v, o, eo, _⟩ := I2.cell y c hc
      have := Heap.lt_size eo
      rw [z] at this
      exact absurd this (Nat.not_lt.mpr hC2)) (fun p hp z => by
      have := Heap.lt_size (I2.pin p hp).1
      rw [z] at this
      exact absurd this (Nat.not_lt.mpr hC2))
  exact this
end
section
variable {X : Cx} {pos pos' : Pos}
theorem qs_setCX {tg iter elt : Expr} {ifs : List Expr} {scope : Scope} {wi : TI} {g : TG} {tc : TT} {te : (St -> XK) -> TE} {E : St -> XK} {i : Nat} {x : Str} {spos : Pos} (own free : List Str) (fr : List Nat) (hN : X.N.Nodup) (hx : X.N[i]? = some x) (hl : X.env.scope.names.lookup x = some .local)
    (S : CompSc X scope) (hc : X.calm = true) (hfr : fr.map (fun j => X.N[j]?) = free.map some) (hff : ∀ x ∈ free, scope.names.lookup x = some .free)
    (hi : WI X tg iter wi) (hg : ∀ C s H ex, WG (compCx X (own ++ free) scope C s H ex) tg g) (ht : ∀ C s H ex, WTs (compCx X (own ++ free) scope C s H ex) ifs tc) (he : ∀ C s H ex xe pn E, XOk ((compCx X (own ++ free) scope C s H ex).tr xe pn) E -> WE ((compCx X (own ++ free) scope C s H ex).tr xe pn) elt (te E)) (xl : XLv X E)
    (hsw : swapsWith (.ListComp elt [⟨tg, iter, ifs, 0⟩] scope pos) (some (.Name x pos')) spos.line X.env = pure true := by rfl)
    (hs : ∀ x, foldedSetIterable iter X.env x = pure x := by intro _; rfl) (hst : X.stack = X.env :: X.outer := by rfl) (hL : X.env.frame = some X.env.locals := by rfl) : WS X (.Assign [.Name x pos'] (.ListComp elt [⟨tg, iter, ifs, 0⟩] scope pos) spos) (tAsg (tCompX own fr wi g tc te E) (gName i)) :=
  ⟨ps_setCX own free fr hN hx hl S hc hfr hff hi.out (fun C s H ex => (hg C s H ex).out) (fun C s H ex => (ht C s H ex).out) (fun C s H ex xe pn E xo => (he C s H ex xe pn E xo).out) xl hst hL hsw hs⟩
end

def dCompX (own : List Str) (fr : List Nat) (S : List Nat) (wi : DI) (g : DG) (wc : DT) (we : DXE -> DE) (Ex : DXE) : DE := fun ρ μ Q => (S.all fun i => decide (i < own.length)) = true /\ wi ρ μ fun ds Pm μ1 =>
  dCLoop g wc (we fun _ => Ex ρ) (List.replicate own.length none ++ takeD ρ fr) Pm (fun ys μ2 => Q (.lst ys) μ2) ds [] μ1
section
variable {K : PySem.W.Frag} {fl : Wd} {te : (St -> XK) -> TE} {we : DXE -> DE} {tc : TT} {wc : DT} {wi : TI} {di : DI} {g : TG} {dg : DG} {S : List Nat} {Ex : DXE} {E : St -> XK}
theorem ItR.up {W1 : Wd} {J : It} {ds : List D} {Pm : Mu -> Prop} (h : ItR K fl W1 J ds Pm) (u : fl.le W1) : ItR K W1 W1 J ds Pm := fun Wx μ H lx rx pm i => by
  obtain ⟨go, st⟩ := h Wx μ H lx (rx.floor (u.trans rx.up)) pm i
  exact ⟨fun d hd => ⟨(go d hd).1, fun x H' y => by obtain ⟨W2, l2, r2, q2⟩ := (go d hd).2 x H' y; exact ⟨W2, l2, r2.floor (lx.trans l2), q2⟩⟩, st⟩
theorem xr_const {W : Wd} {ρ : DEnv} {σ : St} (x : XR K fl Ex E) (h : fl.le W) (e : EnvR K W ρ σ) : XR K W (fun _ => Ex ρ) (fun _ => E σ) := ⟨fun {W1 ρ1 μ1 σ1 H1 c C} r1 e1 h1 hC => x.run (r1.floor (h.trans r1.up)) (e.mono r1.up) h1 hC⟩
instance {own : List Str} {fr : List Nat} [x : XR K fl Ex E] [a : SimI K fl wi di] [b : ∀ fl, SimG K fl g dg S] [c : ∀ fl, SimT K fl tc wc] [v : ∀ fl (p : XP K fl), SimE K fl (te p.E) (we p.Ex)] : SimE K fl (tCompX own fr wi g tc te E) (dCompX own fr S di dg wc we Ex) := ⟨fun {W ρ μ σ H Q Q'} r e h k =>
  a.run r e h.2 fun W1 J ds Pm μ1 H1 le1 r1 it1 h1 => by
    have xr := xr_const x r1.up (e.mono le1)
    haveI v1 := v W1 ⟨_, _, xr⟩
    haveI := b W1
    haveI := c W1
    exact comp_sim (K := K) (fl := W1) (te := te fun _ => E σ) (we := we fun _ => Ex ρ) own fr (e.mono le1) (r1.floor (.refl W1)) (it1.up r1.up) h.1 h1 fun W2 ys μ2 xs H2 le2 r2 q2 h2 p hp => by
      obtain ⟨r3, le3⟩ := (r2.floor (r1.up.trans le2)).newF (o := .lst xs) hp
      exact k _ _ _ _ _ (le1.trans (le2.trans le3)) r3 (.lst upd_same (q2.mono le3)) h2⟩
end
end L2

set_option synthInstance.maxHeartbeats 4000000
set_option synthInstance.maxSize 100000
set_option maxHeartbeats 4000000
namespace M
open PySem L2
def top (i : Nat) : Stmt := PySem.Challenge.pw_slotwright_k42_wrong_turns_refused.main.body.getD i (.Pass ⟨0, 0, 0, 0⟩)
abbrev s_is_number : Stmt := top 21
theorem sc_is_number : FnScope ["thing"] ["thing"] (defScope s_is_number) := ⟨rfl, rfl, rfl, by decide +kernel, rfl, by decide +kernel, by decide +kernel⟩
abbrev s_check_whole : Stmt := top 22
theorem sc_check_whole : FnScope ["thing"] ["thing"] (defScope s_check_whole) := ⟨rfl, rfl, rfl, by decide +kernel, rfl, by decide +kernel, by decide +kernel⟩
abbrev s_check_number : Stmt := top 23
theorem sc_check_number : FnScope ["number", "least", "most"] ["number", "least", "most"] (defScope s_check_number) := ⟨rfl, rfl, rfl, by decide +kernel, rfl, by decide +kernel, by decide +kernel⟩
abbrev s_middle : Stmt := top 29
theorem sc_middle : FnScope ["numbers", "number", "left"] ["numbers"] (defScope s_middle) := ⟨rfl, rfl, rfl, by decide +kernel, rfl, by decide +kernel, by decide +kernel⟩
abbrev s_slack_of : Stmt := top 30
theorem sc_slack_of : FnScope ["err", "gain"] ["err", "gain"] (defScope s_slack_of) := ⟨rfl, rfl, rfl, by decide +kernel, rfl, by decide +kernel, by decide +kernel⟩
abbrev s_ClocksD_initD : Stmt := inClass (top 31) 0
theorem sc_ClocksD_initD : FnScope ["self", "stands", "err", "gain", "stand"] ["self", "stands", "err", "gain"] (defScope s_ClocksD_initD) := ⟨rfl, rfl, rfl, by decide +kernel, rfl, by decide +kernel, by decide +kernel⟩
abbrev s_Clocks_turn : Stmt := inClass (top 31) 1
theorem sc_Clocks_turn : FnScope ["self", "heard", "gains", "stands"] ["self", "heard", "gains"] (defScope s_Clocks_turn) := ⟨rfl, rfl, rfl, by decide +kernel, rfl, by decide +kernel, by decide +kernel⟩
abbrev s_Clocks_fall : Stmt := inClass (top 31) 2
theorem sc_Clocks_fall : FnScope ["self", "at"] ["self", "at"] (defScope s_Clocks_fall) := ⟨rfl, rfl, rfl, by decide +kernel, rfl, by decide +kernel, by decide +kernel⟩
abbrev s_Clocks_rise : Stmt := inClass (top 31) 3
theorem sc_Clocks_rise : FnScope ["self", "at"] ["self", "at"] (defScope s_Clocks_rise) := ⟨rfl, rfl, rfl, by decide +kernel, rfl, by decide +kernel, by decide +kernel⟩
abbrev s_Clocks_told : Stmt := inClass (top 31) 4
theorem sc_Clocks_told : FnScope ["self"] ["self"] (defScope s_Clocks_told) := ⟨rfl, rfl, rfl, by decide +kernel, rfl, by decide +kernel, by decide +kernel⟩
abbrev s_Clocks_check_place : Stmt := inClass (top 31) 6
theorem sc_Clocks_check_place : FnScope ["self", "at"] ["self", "at"] (defScope s_Clocks_check_place) := ⟨rfl, rfl, rfl, by decide +kernel, rfl, by decide +kernel, by decide +kernel⟩
abbrev s_Clocks_check_length : Stmt := inClass (top 31) 7
theorem sc_Clocks_check_length : FnScope ["self", "row"] ["self", "row"] (defScope s_Clocks_check_length) := ⟨rfl, rfl, rfl, by decide +kernel, rfl, by decide +kernel, by decide +kernel⟩
abbrev s_Clocks_stand_behind : Stmt := inClass (top 31) 8
theorem sc_Clocks_stand_behind : FnScope ["self", "at", "row", "gain", "place", "word"] ["self", "at", "row", "gain"] (defScope s_Clocks_stand_behind) := ⟨rfl, rfl, rfl, by decide +kernel, rfl, by decide +kernel, by decide +kernel⟩
abbrev s_Clocks_check_word : Stmt := inClass (top 31) 9
theorem sc_Clocks_check_word : FnScope ["self", "place", "word"] ["self", "place", "word"] (defScope s_Clocks_check_word) := ⟨rfl, rfl, rfl, by decide +kernel, rfl, by decide +kernel, by decide +kernel⟩
abbrev s_check_count : Stmt := top 32
theorem sc_check_count : FnScope ["stands"] ["stands"] (defScope s_check_count) := ⟨rfl, rfl, rfl, by decide +kernel, rfl, by decide +kernel, by decide +kernel⟩
abbrev s_law_start : Stmt := top 34
theorem sc_law_start : FnScope ["_law_script"] ["_law_script"] (defScope s_law_start) := ⟨rfl, rfl, rfl, by decide +kernel, rfl, by decide +kernel, by decide +kernel⟩
abbrev s_law_draw : Stmt := top 35
theorem sc_law_draw : FnScope ["_law_s", "_law_many", "_law_cell", "_law_found"] ["_law_s", "_law_many"] (defScope s_law_draw) := ⟨rfl, rfl, rfl, by decide +kernel, rfl, by decide +kernel, by decide +kernel⟩
abbrev s_law_heard : Stmt := top 36
theorem sc_law_heard : FnScope ["_law_s", "_law_stands", "_law_good", "_law_fault", "_law_hears", "_law_heard_here", "_law_at"] ["_law_s", "_law_stands", "_law_good", "_law_fault", "_law_hears"] (defScope s_law_heard) := ⟨rfl, rfl, rfl, by decide +kernel, rfl, by decide +kernel, by decide +kernel⟩
abbrev s_law_middle : Stmt := top 37
theorem sc_law_middle : FnScope ["_law_words", "_law_rest"] ["_law_words"] (defScope s_law_middle) := ⟨rfl, rfl, rfl, by decide +kernel, rfl, by decide +kernel, by decide +kernel⟩
abbrev s_law_clocks : Stmt := top 38
theorem sc_law_clocks : FnScope ["_law_s", "_law_fault", "_law_more", "_law_base", "_law_stands"] ["_law_s"] (defScope s_law_clocks) := ⟨rfl, rfl, rfl, by decide +kernel, rfl, by decide +kernel, by decide +kernel⟩
abbrev s_law_kinds_one : Stmt := top 39
theorem sc_law_kinds_one : FnScope ["_law_e", "_law_kinds"] ["_law_e"] (defScope s_law_kinds_one) := ⟨rfl, rfl, rfl, by decide +kernel, rfl, by decide +kernel, by decide +kernel⟩
abbrev s_law_kinds_two : Stmt := top 40
theorem sc_law_kinds_two : FnScope ["_law_e", "_law_kinds"] ["_law_e"] (defScope s_law_kinds_two) := ⟨rfl, rfl, rfl, by decide +kernel, rfl, by decide +kernel, by decide +kernel⟩
abbrev s_law_kind : Stmt := top 41
theorem sc_law_kind : FnScope ["_law_e", "_law_kinds"] ["_law_e"] (defScope s_law_kind) := ⟨rfl, rfl, rfl, by decide +kernel, rfl, by decide +kernel, by decide +kernel⟩
abbrev s_law_bend : Stmt := top 42
theorem sc_law_bend : FnScope ["_law_s", "_law_heard_here", "_law_gains", "_law_stands", "_law_state", "_law_fault", "_law_more", "_law_way", "_law_able", "_law_at", "_law_told", "_law_other", "_law_quiet"] ["_law_s", "_law_heard_here", "_law_gains", "_law_stands", "_law_state", "_law_fault", "_law_more"] (defScope s_law_bend) := ⟨rfl, rfl, rfl, by decide +kernel, rfl, by decide +kernel, by decide +kernel⟩
abbrev s_law : Stmt := top 43
theorem sc_law : FnScope ["_law_script", "_law_s", "_law_stands", "_law_fault", "_law_more", "_law_clocks_here", "_law_state", "_law_kind_here", "_law_at", "_law_heard_here", "_law_gains", "_law_bent", "_law_wrong", "_law_ahead", "_law_got", "_law_e", "_law_due"] ["_law_script"] (defScope s_law) := ⟨rfl, rfl, rfl, by decide +kernel, rfl, by decide +kernel, by decide +kernel⟩
end M

set_option synthInstance.maxHeartbeats 4000000
set_option synthInstance.maxSize 100000
set_option maxHeartbeats 4000000
namespace M
open PySem L2
/-! ### the law's own head: start, draws -/
section
variable {P : Program} {w : World} {K : PySem.W.Frag} {mg : Str -> Option Value} {base : Heap}
theorem ok_draw {f : Addr} {fd : FuncData} (F : Fun K "_law_draw" "_law_draw" s_law_draw f fd) (B : Blt mg) : FnOk P w K mg base CX0 1 f fd ["_law_s", "_law_many"] spDrawL := by
  refine F.okq sc_law_draw (fun vs H Q E h => ?_) (fun cdv A outer s H vs Q E hr h => ?_)
  . obtain ⟨a, l, m, rfl, _⟩ := h
    rfl
  obtain ⟨a, l, many, rfl, ⟨ns, i, b, c, ha, hl, hi, hb, hal⟩, hm, hm2, q⟩ := h
  refine ⟨_, (qss_cons (qs_if (qt_cmpR op_eq (qe_ix (ix_listK K) (qv 0) qe_int (fun _ _ => rfl)) qe_int (nomark _))
    (qss_cons (qs_set (i := 2) sc_law_draw.nd rfl (Or.inl rfl) qe_int)
    (qss_cons (qs_if (qt_cmpR op_lt (qe_ix (ix_listK K) (qv 0) qe_int (fun _ _ => rfl)) (qe_callB (call_lenK K) rfl B.len bb_len (qa_cons (qe_ix (ix_listK K) (qv 0) qe_int (fun _ _ => rfl)) qa_nil)) (nomark _))
    (qss_cons (qs_set (i := 2) sc_law_draw.nd rfl (Or.inl rfl) (qe_ix (ix_listK K) (qe_ix (ix_listK K) (qv 0) qe_int (fun _ _ => rfl)) (qe_ix (ix_listK K) (qv 0) qe_int (fun _ _ => rfl)) (fun _ _ => rfl)))
    (qss_one (qs_asg (qe_op op_add (qe_ix (ix_listK K) (qv 0) qe_int (fun _ _ => rfl)) qe_int) (qg_sub (qv 0) qe_int set_list))))
    qss_nil)
    (qss_one (qs_if (WW.qt (qw_or (qt_cmpR op_ge (qv 2) (qe_op op_pow qe_int qe_int) (nomark _)) (qw_or1 (qt_cmpR op_le (qv 2) (qe_un un_neg (qe_op op_pow qe_int qe_int)) (nomark _)))))
    (qss_one (qs_asg (qe_callB call_abs rfl B.abs bb_abs (qa_cons (qv 2) qa_nil)) (qg_sub (qv 0) qe_int set_list)))
    (qss_cons (qs_asg (qe_op op_mod (qe_op op_add (qe_op op_add (qe_op op_mul (qe_ix (ix_listK K) (qv 0) qe_int (fun _ _ => rfl)) qe_int) (qe_op op_mod (qv 2) qe_int)) qe_int) qe_int) (qg_sub (qv 0) qe_int set_list))
    (qss_one (qs_ret (qe_op op_mod (qe_op op_fdivB (qe_ix (ix_listK K) (qv 0) qe_int (fun _ _ => rfl)) qe_int) (qv 1)))))))))
    qss_nil)
    (qss_cons (qs_set (i := 3) sc_law_draw.nd rfl (Or.inl rfl) (qe_op op_mod (qe_ix (ix_listK K) (qv 0) qe_int (fun _ _ => rfl)) (qv 1)))
    (qss_cons (qs_asg (qe_op op_fdivB (qe_ix (ix_listK K) (qv 0) qe_int (fun _ _ => rfl)) (qv 1)) (qg_sub (qv 0) qe_int set_list))
    (qss_one (qs_ret (qv 3)))))), ?_⟩
  -- the end: from a great number
  have fin : ∀ (H1 : Hp) (i1 b1 c1 : Int) (x : Option V), H1 a = some (.lst [.ref l, .int i1, .int b1, .int c1]) -> 0 <= i1 -> 0 <= b1 -> OnlyAt a H H1 ->
      (tSeq (tAsg (tOp (rI (fun _ j => 0 < j) fun i j => .int (i % j)) (tOp (rIxL K) (tVar 0) (tC (.int 2))) (tVar 1)) (gName 3))
        (tSeq (tAsg (tOp (rI CDivB fun i j => .int (i / j)) (tOp (rIxL K) (tVar 0) (tC (.int 2))) (tVar 1)) (gSub (tVar 0) (tC (.int 2)) rSetL)) (tRet (tVar 3)))) { nx := fun _ H' => Q .non H', rt := Q } [some (.ref a), some (.int many), x, none] H1 := by
    intro H1 i1 b1 c1 x h1 hi1 hb1 o1
    refine ⟨_, rfl, _, _, _, _, rfl, rfl, SqL.of h1, rfl, _, rfl, _, _, rfl, rfl, hm, ?_⟩
    refine ⟨_, rfl, _, _, _, _, rfl, rfl, SqL.of h1, rfl, _, rfl, _, _, rfl, rfl, ⟨hm, hm2⟩, ?_⟩
    refine ⟨_, rfl, _, _, _, _, rfl, rfl, h1, rfl, ?_⟩
    refine ⟨_, rfl, ?_⟩
    refine q _ _ (Int.emod_nonneg _ (by omega)) (Int.emod_lt_of_pos _ hm) ⟨ns, i1, b1 / many, c1, upd_same, ?_, hi1, Int.ediv_nonneg hb1 (by omega), hal⟩ fun z hz => ?_
    . rw [upd_ne hal.symm, o1 _ hal.symm]; exact hl
    . rw [upd_ne hz]; exact o1 z hz
  refine ⟨_, rfl, _, _, _, _, rfl, rfl, SqL.of ha, rfl, rfl, _, rfl, ?_⟩
  refine ite2 (fun c0 => ?_) (fun c0 => ?_)
  . refine ⟨_, rfl, _, _, _, _, rfl, rfl, SqL.of ha, rfl, _, rfl, _, _, _, _, rfl, rfl, SqL.of ha, rfl, _, _, rfl, .inl (SqL.of hl), _, _, rfl, rfl, _, rfl, ?_⟩
    -- behind the cell
    have cellEnd : ∀ (H1 : Hp) (i1 cell : Int), H1 a = some (.lst [.ref l, .int i1, .int b, .int c]) -> 0 <= i1 -> OnlyAt a H H1 ->
      (tIfS (tOr (tTest (tOp (rI0 fun i j => .bl (decide (j <= i))) (tVar 2) (tOp (rI CPow fun i j => .int (i ^ j.toNat)) (tC (.int 10)) (tC (.int 18)))))
          (tTest (tOp (rI0 fun i j => .bl (decide (i <= j))) (tVar 2) (tUn (rU fun i => .int (-i)) (tOp (rI CPow fun i j => .int (i ^ j.toNat)) (tC (.int 10)) (tC (.int 18)))))))
        (tAsg (tCB (fun xs H Q => ∃ i, xs = [.int i] /\ Q (.int (if i < 0 then -i else i)) H) (tCons (tVar 2) tNil)) (gSub (tVar 0) (tC (.int 2)) rSetL))
        (tSeq (tAsg (tOp (rI (fun _ j => 0 < j) fun i j => .int (i % j)) (tOp (rI0 fun i j => .int (i + j)) (tOp (rI0 fun i j => .int (i + j)) (tOp (rI CMul fun i j => .int (i * j)) (tOp (rIxL K) (tVar 0) (tC (.int 3))) (tC (.int 48271))) (tOp (rI (fun _ j => 0 < j) fun i j => .int (i % j)) (tVar 2) (tC (.int 2147483647)))) (tC (.int 11))) (tC (.int 2147483647))) (gSub (tVar 0) (tC (.int 3)) rSetL))
          (tRet (tOp (rI (fun _ j => 0 < j) fun i j => .int (i % j)) (tOp (rI CDivB fun i j => .int (i / j)) (tOp (rIxL K) (tVar 0) (tC (.int 3))) (tC (.int 64))) (tVar 1)))))
        { nx := (tSeq (tAsg (tOp (rI (fun _ j => 0 < j) fun i j => .int (i % j)) (tOp (rIxL K) (tVar 0) (tC (.int 2))) (tVar 1)) (gName 3))
        (tSeq (tAsg (tOp (rI CDivB fun i j => .int (i / j)) (tOp (rIxL K) (tVar 0) (tC (.int 2))) (tVar 1)) (gSub (tVar 0) (tC (.int 2)) rSetL)) (tRet (tVar 3)))) { nx := fun _ H' => Q .non H', rt := Q }, rt := Q } [some (.ref a), some (.int many), some (.int cell), none] H1 := by
      intro H1 i1 cell h1 hi1 o1
      have big : (tAsg (tCB (fun xs H Q => ∃ i, xs = [.int i] /\ Q (.int (if i < 0 then -i else i)) H) (tCons (tVar 2) tNil)) (gSub (tVar 0) (tC (.int 2)) rSetL))
          { nx := (tSeq (tAsg (tOp (rI (fun _ j => 0 < j) fun i j => .int (i % j)) (tOp (rIxL K) (tVar 0) (tC (.int 2))) (tVar 1)) (gName 3))
        (tSeq (tAsg (tOp (rI CDivB fun i j => .int (i / j)) (tOp (rIxL K) (tVar 0) (tC (.int 2))) (tVar 1)) (gSub (tVar 0) (tC (.int 2)) rSetL)) (tRet (tVar 3)))) { nx := fun _ H' => Q .non H', rt := Q }, rt := Q } [some (.ref a), some (.int many), some (.int cell), none] H1 := by
        refine ⟨_, rfl, _, rfl, _, rfl, _, _, _, _, rfl, rfl, h1, rfl, ?_⟩
        exact fin _ i1 (if cell < 0 then -cell else cell) c _ upd_same hi1 (by split <;> omega) fun z hz => by rw [upd_ne hz]; exact o1 z hz
      refine ⟨_, rfl, _, _, rfl, rfl, ⟨by decide, by decide, by decide⟩, _, _, rfl, rfl, _, rfl, ?_⟩
      refine ite2 (fun c1 => ?_) (fun c1 => ?_)
      . exact iteT big
      . refine ⟨_, rfl, _, _, rfl, rfl, ⟨by decide, by decide, by decide⟩, _, rfl, _, _, rfl, rfl, _, rfl, ?_⟩
        refine ite2 (fun c2 => big) (fun c2 => ?_)
        refine ⟨_, rfl, _, _, _, _, rfl, rfl, SqL.of h1, rfl, _, _, rfl, rfl, .inr ⟨by decide, by decide⟩, _, rfl, _, _, rfl, rfl, (show (0 : Int) < 2147483647 by decide), _, _, rfl, rfl, _, _, rfl, rfl, _, _, rfl, rfl, (show (0 : Int) < 2147483647 by decide), ?_⟩
        refine ⟨_, rfl, _, _, _, _, rfl, rfl, h1, rfl, ?_⟩
        refine ⟨_, rfl, _, _, _, _, rfl, rfl, SqL.of upd_same, rfl, _, _, rfl, rfl, ⟨by decide, by decide⟩, _, rfl, _, _, rfl, rfl, hm, ?_⟩
        refine q _ _ (Int.emod_nonneg _ (by omega)) (Int.emod_lt_of_pos _ hm) ⟨ns, i1, b, _, upd_same, ?_, hi1, hb, hal⟩ fun z hz => ?_
        . rw [upd_ne hal.symm, o1 _ hal.symm]; exact hl
        . rw [upd_ne hz]; exact o1 z hz
    refine ite2 (fun c1 => ?_) (fun c1 => ?_)
    . have c1' : i < ((ns.map V.int).length : Int) := of_decide_eq_true c1
      rw [List.length_map] at c1'
      have hget : (ns.map V.int)[i.toNat]? = some (.int (ns[i.toNat]'(by omega))) := by rw [List.getElem?_map, List.getElem?_eq_getElem (by omega)]; rfl
      have hat := atI_nat hget
      rw [show ((i.toNat : Nat) : Int) = i by omega] at hat
      refine ⟨_, rfl, _, _, _, _, rfl, rfl, SqL.of ha, rfl, _, rfl, _, _, _, _, rfl, rfl, SqL.of ha, rfl, _, _, _, _, rfl, rfl, SqL.of hl, hat, ?_⟩
      refine ⟨_, rfl, _, _, _, _, rfl, rfl, SqL.of ha, rfl, _, _, rfl, rfl, _, rfl, _, _, _, _, rfl, rfl, ha, rfl, ?_⟩
      exact cellEnd _ (i + 1) _ upd_same (by omega) fun z hz => by rw [upd_ne hz]
    . exact cellEnd H i 0 ha hi fun z hz => rfl
  . exact fin H i b c none ha hi hb fun z hz => rfl

theorem ok_start {f : Addr} {fd : FuncData} (F : Fun K "_law_start" "_law_start" s_law_start f fd) (B : Blt mg) : FnOk P w K mg base CX0 1 f fd ["_law_script"] (spStartL K) := by
  refine F.okq sc_law_start (fun vs H Q E h => ?_) (fun cdv A outer s H vs Q E hr h => ?_)
  . obtain ⟨a, m, rfl, _⟩ := h
    rfl
  obtain ⟨a, ns, rfl, hS, q⟩ := h
  refine ⟨_, (qss_one (qs_ret (qe_lst (qa_cons (qe_callTy (call_listK K) rfl B.list bb_list (qa_cons (qe_slice (sl_listK K) (qv 0) qo_none (qo_some qe_int)) qa_nil)) (qa_cons qe_int (qa_cons qe_int (qa_cons qe_int qa_nil))))))), ?_⟩
  refine ⟨_, rfl, _, rfl, _, _, rfl, hS, fun p1 h1 => ?_⟩
  refine ⟨_, _, rfl, .inl (SqL.of upd_same), fun p2 h2 => ⟨by show 4 <= sizeLine; decide, fun p3 h3 => ?_⟩⟩
  have n21 : p2 ≠ p1 := fun z => by rw [z, upd_same] at h2; cases h2
  have n32 : p3 ≠ p2 := fun z => by rw [z, upd_same] at h3; cases h3
  rw [upd_ne n32] at h3
  have n31 : p3 ≠ p1 := fun z => by rw [z, upd_same] at h3; cases h3
  rw [upd_ne n31] at h3
  rw [upd_ne n21] at h2
  have cut : cutV (ns.map V.int) none (some 63) = ((ns.drop (HT.sIx (ns.map V.int).length 0 none)).take (HT.sIx (ns.map V.int).length (ns.map V.int).length (some 63) - HT.sIx (ns.map V.int).length 0 none)).map V.int := by
    unfold cutV; rw [List.map_take, List.map_drop]
  refine q p3 p2 _ h3 h2 ⟨((ns.drop (HT.sIx (ns.map V.int).length 0 none)).take (HT.sIx (ns.map V.int).length (ns.map V.int).length (some 63) - HT.sIx (ns.map V.int).length 0 none)), 0, 0, 90210, upd_same, ?_, by decide, by decide, n32⟩ fun b o e => ?_
  . rw [upd_ne n32.symm, upd_same, cut]
  . rw [upd_ne (ne_of_none e h3), upd_ne (ne_of_none e h2), upd_ne (ne_of_none e h1)]
    exact e

end
end M

set_option synthInstance.maxHeartbeats 4000000
set_option synthInstance.maxSize 100000
set_option maxHeartbeats 4000000
namespace M
open PySem L2
abbrev tab : Tab := [("Clocks", ["stands", "err", "gain", "fallen", "listening"])]
abbrev fs_Clocks : List Str := ["stands", "err", "gain", "fallen", "listening"]
theorem it_Clocks_stands : inTab tab "Clocks" "stands" = true := by decide +kernel
theorem fo_Clocks_stands {v0 v1 v2 v3 v4 : D} {R : D -> Prop} : fldO tab "stands" "Clocks" fs_Clocks [v0, v1, v2, v3, v4] R = R v0 := by
  simp only [fldO, it_Clocks_stands, true_and, List.zip_cons_cons, List.lookup_cons, beq_self_eq_true, optK_some]
theorem sf_Clocks_stands {w v0 v1 v2 v3 v4 : D} {R : List Str -> List D -> Prop} : setO tab "stands" w "Clocks" fs_Clocks [v0, v1, v2, v3, v4] R = R fs_Clocks [w, v1, v2, v3, v4] := by
  rw [setO, it_Clocks_stands, show putN "stands" fs_Clocks = fs_Clocks from by simp only [putN, show (("err" : Str) = "stands") = False from eq_false (by decide +kernel), show (("gain" : Str) = "stands") = False from eq_false (by decide +kernel), show (("fallen" : Str) = "stands") = False from eq_false (by decide +kernel), show (("listening" : Str) = "stands") = False from eq_false (by decide +kernel), if_true, if_false], show putD "stands" w fs_Clocks [v0, v1, v2, v3, v4] = [w, v1, v2, v3, v4] from by simp only [putD, show (("err" : Str) = "stands") = False from eq_false (by decide +kernel), show (("gain" : Str) = "stands") = False from eq_false (by decide +kernel), show (("fallen" : Str) = "stands") = False from eq_false (by decide +kernel), show (("listening" : Str) = "stands") = False from eq_false (by decide +kernel), if_true, if_false]]
  exact propext ⟨fun h => h.2.2, fun h => ⟨rfl, by show 5 < 1000; decide, h⟩⟩
theorem sp_Clocks_stands {w  : D} {R : List Str -> List D -> Prop} : setO tab "stands" w "Clocks" [] [] R = R ["stands"] [w] := by
  rw [setO, it_Clocks_stands, show putN "stands" [] = (["stands"] : List Str) from by simp only [putN, if_false], show putD "stands" w [] [] = [w] from by simp only [putD, if_false]]
  exact propext ⟨fun h => h.2.2, fun h => ⟨rfl, by show 0 < 1000; decide, h⟩⟩
theorem it_Clocks_err : inTab tab "Clocks" "err" = true := by decide +kernel
theorem fo_Clocks_err {v0 v1 v2 v3 v4 : D} {R : D -> Prop} : fldO tab "err" "Clocks" fs_Clocks [v0, v1, v2, v3, v4] R = R v1 := by
  simp only [fldO, it_Clocks_err, true_and, List.zip_cons_cons, List.lookup_cons, show (("err" : Str) == "stands") = false from by decide +kernel, beq_self_eq_true, optK_some]
theorem sp_Clocks_err {w v0 : D} {R : List Str -> List D -> Prop} : setO tab "err" w "Clocks" ["stands"] [v0] R = R ["stands", "err"] [v0, w] := by
  rw [setO, it_Clocks_err, show putN "err" ["stands"] = (["stands", "err"] : List Str) from by simp only [putN, show (("stands" : Str) = "err") = False from eq_false (by decide +kernel), if_false], show putD "err" w ["stands"] [v0] = [v0, w] from by simp only [putD, show (("stands" : Str) = "err") = False from eq_false (by decide +kernel), if_false]]
  exact propext ⟨fun h => h.2.2, fun h => ⟨rfl, by show 1 < 1000; decide, h⟩⟩
theorem it_Clocks_gain : inTab tab "Clocks" "gain" = true := by decide +kernel
theorem fo_Clocks_gain {v0 v1 v2 v3 v4 : D} {R : D -> Prop} : fldO tab "gain" "Clocks" fs_Clocks [v0, v1, v2, v3, v4] R = R v2 := by
  simp only [fldO, it_Clocks_gain, true_and, List.zip_cons_cons, List.lookup_cons, show (("gain" : Str) == "stands") = false from by decide +kernel, show (("gain" : Str) == "err") = false from by decide +kernel, beq_self_eq_true, optK_some]
theorem sp_Clocks_gain {w v0 v1 : D} {R : List Str -> List D -> Prop} : setO tab "gain" w "Clocks" ["stands", "err"] [v0, v1] R = R ["stands", "err", "gain"] [v0, v1, w] := by
  rw [setO, it_Clocks_gain, show putN "gain" ["stands", "err"] = (["stands", "err", "gain"] : List Str) from by simp only [putN, show (("stands" : Str) = "gain") = False from eq_false (by decide +kernel), show (("err" : Str) = "gain") = False from eq_false (by decide +kernel), if_false], show putD "gain" w ["stands", "err"] [v0, v1] = [v0, v1, w] from by simp only [putD, show (("stands" : Str) = "gain") = False from eq_false (by decide +kernel), show (("err" : Str) = "gain") = False from eq_false (by decide +kernel), if_false]]
  exact propext ⟨fun h => h.2.2, fun h => ⟨rfl, by show 2 < 1000; decide, h⟩⟩
theorem it_Clocks_fallen : inTab tab "Clocks" "fallen" = true := by decide +kernel
theorem fo_Clocks_fallen {v0 v1 v2 v3 v4 : D} {R : D -> Prop} : fldO tab "fallen" "Clocks" fs_Clocks [v0, v1, v2, v3, v4] R = R v3 := by
  simp only [fldO, it_Clocks_fallen, true_and, List.zip_cons_cons, List.lookup_cons, show (("fallen" : Str) == "stands") = false from by decide +kernel, show (("fallen" : Str) == "err") = false from by decide +kernel, show (("fallen" : Str) == "gain") = false from by decide +kernel, beq_self_eq_true, optK_some]
theorem sf_Clocks_fallen {w v0 v1 v2 v3 v4 : D} {R : List Str -> List D -> Prop} : setO tab "fallen" w "Clocks" fs_Clocks [v0, v1, v2, v3, v4] R = R fs_Clocks [v0, v1, v2, w, v4] := by
  rw [setO, it_Clocks_fallen, show putN "fallen" fs_Clocks = fs_Clocks from by simp only [putN, show (("stands" : Str) = "fallen") = False from eq_false (by decide +kernel), show (("err" : Str) = "fallen") = False from eq_false (by decide +kernel), show (("gain" : Str) = "fallen") = False from eq_false (by decide +kernel), show (("listening" : Str) = "fallen") = False from eq_false (by decide +kernel), if_true, if_false], show putD "fallen" w fs_Clocks [v0, v1, v2, v3, v4] = [v0, v1, v2, w, v4] from by simp only [putD, show (("stands" : Str) = "fallen") = False from eq_false (by decide +kernel), show (("err" : Str) = "fallen") = False from eq_false (by decide +kernel), show (("gain" : Str) = "fallen") = False from eq_false (by decide +kernel), show (("listening" : Str) = "fallen") = False from eq_false (by decide +kernel), if_true, if_false]]
  exact propext ⟨fun h => h.2.2, fun h => ⟨rfl, by show 5 < 1000; decide, h⟩⟩
theorem sp_Clocks_fallen {w v0 v1 v2 : D} {R : List Str -> List D -> Prop} : setO tab "fallen" w "Clocks" ["stands", "err", "gain"] [v0, v1, v2] R = R ["stands", "err", "gain", "fallen"] [v0, v1, v2, w] := by
  rw [setO, it_Clocks_fallen, show putN "fallen" ["stands", "err", "gain"] = (["stands", "err", "gain", "fallen"] : List Str) from by simp only [putN, show (("stands" : Str) = "fallen") = False from eq_false (by decide +kernel), show (("err" : Str) = "fallen") = False from eq_false (by decide +kernel), show (("gain" : Str) = "fallen") = False from eq_false (by decide +kernel), if_false], show putD "fallen" w ["stands", "err", "gain"] [v0, v1, v2] = [v0, v1, v2, w] from by simp only [putD, show (("stands" : Str) = "fallen") = False from eq_false (by decide +kernel), show (("err" : Str) = "fallen") = False from eq_false (by decide +kernel), show (("gain" : Str) = "fallen") = False from eq_false (by decide +kernel), if_false]]
  exact propext ⟨fun h => h.2.2, fun h => ⟨rfl, by show 3 < 1000; decide, h⟩⟩
theorem it_Clocks_listening : inTab tab "Clocks" "listening" = true := by decide +kernel
theorem fo_Clocks_listening {v0 v1 v2 v3 v4 : D} {R : D -> Prop} : fldO tab "listening" "Clocks" fs_Clocks [v0, v1, v2, v3, v4] R = R v4 := by
  simp only [fldO, it_Clocks_listening, true_and, List.zip_cons_cons, List.lookup_cons, show (("listening" : Str) == "stands") = false from by decide +kernel, show (("listening" : Str) == "err") = false from by decide +kernel, show (("listening" : Str) == "gain") = false from by decide +kernel, show (("listening" : Str) == "fallen") = false from by decide +kernel, beq_self_eq_true, optK_some]
theorem sf_Clocks_listening {w v0 v1 v2 v3 v4 : D} {R : List Str -> List D -> Prop} : setO tab "listening" w "Clocks" fs_Clocks [v0, v1, v2, v3, v4] R = R fs_Clocks [v0, v1, v2, v3, w] := by
  rw [setO, it_Clocks_listening, show putN "listening" fs_Clocks = fs_Clocks from by simp only [putN, show (("stands" : Str) = "listening") = False from eq_false (by decide +kernel), show (("err" : Str) = "listening") = False from eq_false (by decide +kernel), show (("gain" : Str) = "listening") = False from eq_false (by decide +kernel), show (("fallen" : Str) = "listening") = False from eq_false (by decide +kernel), if_true, if_false], show putD "listening" w fs_Clocks [v0, v1, v2, v3, v4] = [v0, v1, v2, v3, w] from by simp only [putD, show (("stands" : Str) = "listening") = False from eq_false (by decide +kernel), show (("err" : Str) = "listening") = False from eq_false (by decide +kernel), show (("gain" : Str) = "listening") = False from eq_false (by decide +kernel), show (("fallen" : Str) = "listening") = False from eq_false (by decide +kernel), if_true, if_false]]
  exact propext ⟨fun h => h.2.2, fun h => ⟨rfl, by show 5 < 1000; decide, h⟩⟩
theorem sp_Clocks_listening {w v0 v1 v2 v3 : D} {R : List Str -> List D -> Prop} : setO tab "listening" w "Clocks" ["stands", "err", "gain", "fallen"] [v0, v1, v2, v3] R = R ["stands", "err", "gain", "fallen", "listening"] [v0, v1, v2, v3, w] := by
  rw [setO, it_Clocks_listening, show putN "listening" ["stands", "err", "gain", "fallen"] = (["stands", "err", "gain", "fallen", "listening"] : List Str) from by simp only [putN, show (("stands" : Str) = "listening") = False from eq_false (by decide +kernel), show (("err" : Str) = "listening") = False from eq_false (by decide +kernel), show (("gain" : Str) = "listening") = False from eq_false (by decide +kernel), show (("fallen" : Str) = "listening") = False from eq_false (by decide +kernel), if_false], show putD "listening" w ["stands", "err", "gain", "fallen"] [v0, v1, v2, v3] = [v0, v1, v2, v3, w] from by simp only [putD, show (("stands" : Str) = "listening") = False from eq_false (by decide +kernel), show (("err" : Str) = "listening") = False from eq_false (by decide +kernel), show (("gain" : Str) = "listening") = False from eq_false (by decide +kernel), show (("fallen" : Str) = "listening") = False from eq_false (by decide +kernel), if_false]]
  exact propext ⟨fun h => h.2.2, fun h => ⟨rfl, by show 4 < 1000; decide, h⟩⟩
theorem lm_Clocks_check_length {v0 v1 v2 v3 v4 : D} : List.lookup ("check_length" : Str) (fs_Clocks.zip [v0, v1, v2, v3, v4]) = none := by
  simp only [List.zip_cons_cons, List.zip_nil_left, List.lookup_cons, List.lookup_nil, show (("check_length" : Str) == "stands") = false from by decide +kernel, show (("check_length" : Str) == "err") = false from by decide +kernel, show (("check_length" : Str) == "gain") = false from by decide +kernel, show (("check_length" : Str) == "fallen") = false from by decide +kernel, show (("check_length" : Str) == "listening") = false from by decide +kernel]
theorem lm_Clocks_check_place {v0 v1 v2 v3 v4 : D} : List.lookup ("check_place" : Str) (fs_Clocks.zip [v0, v1, v2, v3, v4]) = none := by
  simp only [List.zip_cons_cons, List.zip_nil_left, List.lookup_cons, List.lookup_nil, show (("check_place" : Str) == "stands") = false from by decide +kernel, show (("check_place" : Str) == "err") = false from by decide +kernel, show (("check_place" : Str) == "gain") = false from by decide +kernel, show (("check_place" : Str) == "fallen") = false from by decide +kernel, show (("check_place" : Str) == "listening") = false from by decide +kernel]
theorem lm_Clocks_check_word {v0 v1 v2 v3 v4 : D} : List.lookup ("check_word" : Str) (fs_Clocks.zip [v0, v1, v2, v3, v4]) = none := by
  simp only [List.zip_cons_cons, List.zip_nil_left, List.lookup_cons, List.lookup_nil, show (("check_word" : Str) == "stands") = false from by decide +kernel, show (("check_word" : Str) == "err") = false from by decide +kernel, show (("check_word" : Str) == "gain") = false from by decide +kernel, show (("check_word" : Str) == "fallen") = false from by decide +kernel, show (("check_word" : Str) == "listening") = false from by decide +kernel]
theorem lm_Clocks_fall {v0 v1 v2 v3 v4 : D} : List.lookup ("fall" : Str) (fs_Clocks.zip [v0, v1, v2, v3, v4]) = none := by
  simp only [List.zip_cons_cons, List.zip_nil_left, List.lookup_cons, List.lookup_nil, show (("fall" : Str) == "stands") = false from by decide +kernel, show (("fall" : Str) == "err") = false from by decide +kernel, show (("fall" : Str) == "gain") = false from by decide +kernel, show (("fall" : Str) == "fallen") = false from by decide +kernel, show (("fall" : Str) == "listening") = false from by decide +kernel]
theorem lm_Clocks_rise {v0 v1 v2 v3 v4 : D} : List.lookup ("rise" : Str) (fs_Clocks.zip [v0, v1, v2, v3, v4]) = none := by
  simp only [List.zip_cons_cons, List.zip_nil_left, List.lookup_cons, List.lookup_nil, show (("rise" : Str) == "stands") = false from by decide +kernel, show (("rise" : Str) == "err") = false from by decide +kernel, show (("rise" : Str) == "gain") = false from by decide +kernel, show (("rise" : Str) == "fallen") = false from by decide +kernel, show (("rise" : Str) == "listening") = false from by decide +kernel]
theorem lm_Clocks_stand_behind {v0 v1 v2 v3 v4 : D} : List.lookup ("stand_behind" : Str) (fs_Clocks.zip [v0, v1, v2, v3, v4]) = none := by
  simp only [List.zip_cons_cons, List.zip_nil_left, List.lookup_cons, List.lookup_nil, show (("stand_behind" : Str) == "stands") = false from by decide +kernel, show (("stand_behind" : Str) == "err") = false from by decide +kernel, show (("stand_behind" : Str) == "gain") = false from by decide +kernel, show (("stand_behind" : Str) == "fallen") = false from by decide +kernel, show (("stand_behind" : Str) == "listening") = false from by decide +kernel]
theorem lm_Clocks_told {v0 v1 v2 v3 v4 : D} : List.lookup ("told" : Str) (fs_Clocks.zip [v0, v1, v2, v3, v4]) = none := by
  simp only [List.zip_cons_cons, List.zip_nil_left, List.lookup_cons, List.lookup_nil, show (("told" : Str) == "stands") = false from by decide +kernel, show (("told" : Str) == "err") = false from by decide +kernel, show (("told" : Str) == "gain") = false from by decide +kernel, show (("told" : Str) == "fallen") = false from by decide +kernel, show (("told" : Str) == "listening") = false from by decide +kernel]
theorem lm_Clocks_turn {v0 v1 v2 v3 v4 : D} : List.lookup ("turn" : Str) (fs_Clocks.zip [v0, v1, v2, v3, v4]) = none := by
  simp only [List.zip_cons_cons, List.zip_nil_left, List.lookup_cons, List.lookup_nil, show (("turn" : Str) == "stands") = false from by decide +kernel, show (("turn" : Str) == "err") = false from by decide +kernel, show (("turn" : Str) == "gain") = false from by decide +kernel, show (("turn" : Str) == "fallen") = false from by decide +kernel, show (("turn" : Str) == "listening") = false from by decide +kernel]
abbrev excEs : List Str := ["BadNumber", "TooFew"]
abbrev excPs : List Str := ["BadNumber", "TooFew"]
abbrev excKs : List Str := ["Tight", "Late", "Heavy", "NoPlan", "NoRoom", "NoStep", "TooFew", "BadPage", "BadName", "BadNumber", "BadWay", "BadEnds", "BadLine", "Taken", "NoName", "InUse", "Full"]
abbrev excHs : List Str := ["NetError"]
abbrev N_is_number : List Str := ["thing"]
@[reducible] def w_is_number : DS := (dRet (dAndV (dCB dIsT (dCons (dVar 0) (dCons (dC (.ty "int")) dNil))) (dNotV (dCB dIsT (dCons (dVar 0) (dCons (dC (.ty "bool")) dNil))))))
def dsp_is_number : DSp := bodySp w_is_number N_is_number 1
abbrev N_Clocks_told : List Str := ["self"]
@[reducible] def w_Clocks_told : DS := (dRet (dComp ["at", "stand"] [0] ([0] ++ ([1] ++ [])) (diEnum (dCons (dFld tab (dVar 0) "stands") dNil)) (dgTup 2 (dgCons (dgName 0) (dgCons (dgName 1) dgNil))) dNoT (dIf (dTest (dOp (dInN false) (dVar 0) (dTup (dCons (dFld tab (dVar 2) "fallen") (dCons (dFld tab (dVar 2) "listening") dNil))))) (dC .non) (dVar 1))))
def dsp_Clocks_told : DSp := bodySp w_Clocks_told N_Clocks_told 1
abbrev N_Clocks_check_length : List Str := ["self", "row"]
@[reducible] def w_Clocks_check_length : DS := (dIfS (dTest (dOp dNe (dCB dLen (dCons (dVar 1) dNil)) (dCB dLen (dCons (dFld tab (dVar 0) "stands") dNil))))
    dNever
    dNext)
def dsp_Clocks_check_length : DSp := bodySp w_Clocks_check_length N_Clocks_check_length 2
@[reducible] def w_Clocks_check_lengthX (Ex : DXE) : DS := (dIfS (dTest (dOp dNe (dCB dLen (dCons (dVar 1) dNil)) (dCB dLen (dCons (dFld tab (dVar 0) "stands") dNil))))
    (dRaise "BadNumber" Ex (dCons (dC (.str "not one for each clock")) dNil))
    dNext)
def dsp_Clocks_check_lengthX : DSpX := bodySpX w_Clocks_check_lengthX N_Clocks_check_length 2
abbrev N_check_count : List Str := ["stands"]
@[reducible] def w_check_count : DS := (dSeq (dIfS (dTest (dOp dLt (dCB dLen (dCons (dVar 0) dNil)) (dC (.int 4))))
    dNever
    dNext)
    (dIfS (dTest (dOp dGt (dCB dLen (dCons (dVar 0) dNil)) (dC (.int 7))))
    dNever
    dNext))
def dsp_check_count : DSp := bodySp w_check_count N_check_count 1
abbrev N_law_middle : List Str := ["_law_words", "_law_rest"]
@[reducible] def w_law_middle : DS := (dSeq (dAsg (dSl dSlG (dCB dSorted (dCons (dComp ["_law_word"] [] [0] (diSeq (dVar 0)) (dgName 0) (dTest (dOp dIsNot (dVar 0) (dC .non))) (dVar 0)) dNil)) (dPart (dC (.int 1))) (dPart (dUn dNeg (dC (.int 1))))) (dgName 1))
    (dRet (dOp dFdiv (dOp dAdd (dOp dIx (dVar 1) (dC (.int 0))) (dOp dIx (dVar 1) (dUn dNeg (dC (.int 1))))) (dC (.int 2)))))
def dsp_law_middle : DSp := bodySp w_law_middle N_law_middle 1
abbrev N_law_kinds_one : List Str := ["_law_e", "_law_kinds"]
@[reducible] def w_law_kinds_one : DS := (dSeq (dAsg (dLstC dNil) (dgName 1))
    (dSeq (dIfS (dTest (dCB (dIsE excEs excKs) (dCons (dVar 0) (dCons (dC (.cls "BadName")) dNil))))
    (dDrop (dBM "list" dAppend (dVar 1) (dCons (dC (.str "BadName")) dNil)))
    dNext)
    (dSeq (dIfS (dTest (dCB (dIsE excEs excKs) (dCons (dVar 0) (dCons (dC (.cls "BadNumber")) dNil))))
    (dDrop (dBM "list" dAppend (dVar 1) (dCons (dC (.str "BadNumber")) dNil)))
    dNext)
    (dSeq (dIfS (dTest (dCB (dIsE excEs excKs) (dCons (dVar 0) (dCons (dC (.cls "BadWay")) dNil))))
    (dDrop (dBM "list" dAppend (dVar 1) (dCons (dC (.str "BadWay")) dNil)))
    dNext)
    (dSeq (dIfS (dTest (dCB (dIsE excEs excKs) (dCons (dVar 0) (dCons (dC (.cls "BadEnds")) dNil))))
    (dDrop (dBM "list" dAppend (dVar 1) (dCons (dC (.str "BadEnds")) dNil)))
    dNext)
    (dSeq (dIfS (dTest (dCB (dIsE excEs excKs) (dCons (dVar 0) (dCons (dC (.cls "BadLine")) dNil))))
    (dDrop (dBM "list" dAppend (dVar 1) (dCons (dC (.str "BadLine")) dNil)))
    dNext)
    (dSeq (dIfS (dTest (dCB (dIsE excEs excKs) (dCons (dVar 0) (dCons (dC (.cls "Taken")) dNil))))
    (dDrop (dBM "list" dAppend (dVar 1) (dCons (dC (.str "Taken")) dNil)))
    dNext)
    (dSeq (dIfS (dTest (dCB (dIsE excEs excKs) (dCons (dVar 0) (dCons (dC (.cls "NoName")) dNil))))
    (dDrop (dBM "list" dAppend (dVar 1) (dCons (dC (.str "NoName")) dNil)))
    dNext)
    (dSeq (dIfS (dTest (dCB (dIsE excEs excKs) (dCons (dVar 0) (dCons (dC (.cls "InUse")) dNil))))
    (dDrop (dBM "list" dAppend (dVar 1) (dCons (dC (.str "InUse")) dNil)))
    dNext)
    (dSeq (dIfS (dTest (dCB (dIsE excEs excKs) (dCons (dVar 0) (dCons (dC (.cls "Full")) dNil))))
    (dDrop (dBM "list" dAppend (dVar 1) (dCons (dC (.str "Full")) dNil)))
    dNext)
    (dFreeze 1 (dRet (dVar 1)))))))))))))
def dsp_law_kinds_one : DSp := bodySp w_law_kinds_one N_law_kinds_one 1
abbrev N_law_kinds_two : List Str := ["_law_e", "_law_kinds"]
@[reducible] def w_law_kinds_two : DS := (dSeq (dAsg (dLstC dNil) (dgName 1))
    (dSeq (dIfS (dTest (dCB (dIsE excEs excKs) (dCons (dVar 0) (dCons (dC (.cls "Tight")) dNil))))
    (dDrop (dBM "list" dAppend (dVar 1) (dCons (dC (.str "Tight")) dNil)))
    dNext)
    (dSeq (dIfS (dTest (dCB (dIsE excEs excKs) (dCons (dVar 0) (dCons (dC (.cls "Late")) dNil))))
    (dDrop (dBM "list" dAppend (dVar 1) (dCons (dC (.str "Late")) dNil)))
    dNext)
    (dSeq (dIfS (dTest (dCB (dIsE excEs excKs) (dCons (dVar 0) (dCons (dC (.cls "Heavy")) dNil))))
    (dDrop (dBM "list" dAppend (dVar 1) (dCons (dC (.str "Heavy")) dNil)))
    dNext)
    (dSeq (dIfS (dTest (dCB (dIsE excEs excKs) (dCons (dVar 0) (dCons (dC (.cls "NoPlan")) dNil))))
    (dDrop (dBM "list" dAppend (dVar 1) (dCons (dC (.str "NoPlan")) dNil)))
    dNext)
    (dSeq (dIfS (dTest (dCB (dIsE excEs excKs) (dCons (dVar 0) (dCons (dC (.cls "NoRoom")) dNil))))
    (dDrop (dBM "list" dAppend (dVar 1) (dCons (dC (.str "NoRoom")) dNil)))
    dNext)
    (dSeq (dIfS (dTest (dCB (dIsE excEs excKs) (dCons (dVar 0) (dCons (dC (.cls "NoStep")) dNil))))
    (dDrop (dBM "list" dAppend (dVar 1) (dCons (dC (.str "NoStep")) dNil)))
    dNext)
    (dSeq (dIfS (dTest (dCB (dIsE excEs excKs) (dCons (dVar 0) (dCons (dC (.cls "TooFew")) dNil))))
    (dDrop (dBM "list" dAppend (dVar 1) (dCons (dC (.str "TooFew")) dNil)))
    dNext)
    (dSeq (dIfS (dTest (dCB (dIsE excEs excKs) (dCons (dVar 0) (dCons (dC (.cls "BadPage")) dNil))))
    (dDrop (dBM "list" dAppend (dVar 1) (dCons (dC (.str "BadPage")) dNil)))
    dNext)
    (dFreeze 1 (dRet (dVar 1))))))))))))
def dsp_law_kinds_two : DSp := bodySp w_law_kinds_two N_law_kinds_two 1
abbrev N_check_whole : List Str := ["thing"]
@[reducible] def w_check_whole : DS := (dIfS (dNot (dTest (dCall dsp_is_number (dCons (dVar 0) dNil))))
    dNever
    dNext)
def dsp_check_whole : DSp := bodySp w_check_whole N_check_whole 1
@[reducible] def w_check_wholeX (Ex : DXE) : DS := (dIfS (dNot (dTest (dCall dsp_is_number (dCons (dVar 0) dNil))))
    (dRaise "BadNumber" Ex (dCons (dC (.str "not a number")) dNil))
    dNext)
def dsp_check_wholeX : DSpX := bodySpX w_check_wholeX N_check_whole 1
abbrev N_law_heard : List Str := ["_law_s", "_law_stands", "_law_good", "_law_fault", "_law_hears", "_law_heard_here", "_law_at"]
@[reducible] def w_law_heard : DS := (dSeq (dAsg (dLstC dNil) (dgName 5))
    (dSeq (dFor (diRng1 (dCons (dCB dLen (dCons (dVar 1) dNil)) dNil)) (dgName 6)
    (dIfS (dTest (dOp dIx (dVar 2) (dVar 6)))
    (dDrop (dBM "list" dAppend (dVar 5) (dCons (dOp dAdd (dOp dIx (dVar 1) (dVar 6)) (dCall dspDraw (dCons (dVar 0) (dCons (dOp dAdd (dVar 3) (dC (.int 1))) dNil)))) dNil)))
    (dIfS (dTest (dVar 4))
    (dDrop (dBM "list" dAppend (dVar 5) (dCons (dOp dIx (dLst (dCons (dC .non) (dCons (dC (.int 0)) (dCons (dOp dPow (dC (.int 10)) (dC (.int 12))) (dCons (dUn dNeg (dOp dPow (dC (.int 10)) (dC (.int 12)))) (dCons (dOp dSub (dCall dspDraw (dCons (dVar 0) (dCons (dC (.int 200)) dNil))) (dC (.int 100))) dNil)))))) (dCall dspDraw (dCons (dVar 0) (dCons (dC (.int 5)) dNil)))) dNil)))
    (dDrop (dBM "list" dAppend (dVar 5) (dCons (dC .non) dNil))))))
    (dFreeze 5 (dRet (dVar 5)))))
def dsp_law_heard : DSp := bodySp w_law_heard N_law_heard 5
abbrev N_law_clocks : List Str := ["_law_s", "_law_fault", "_law_more", "_law_base", "_law_stands"]
@[reducible] def w_law_clocks : DS := (dSeq (dAsg (dOp dIx (dLst (dInts [0, 1, 2, 3, 4, 1000])) (dCall dspDraw (dCons (dVar 0) (dCons (dC (.int 6)) dNil)))) (dgName 1))
    (dSeq (dAsg (dOp dIx (dLst (dInts [0, 1, 2, 3, 4, 1000])) (dCall dspDraw (dCons (dVar 0) (dCons (dC (.int 6)) dNil)))) (dgName 2))
    (dSeq (dAsg (dOp dSub (dCall dspDraw (dCons (dVar 0) (dCons (dC (.int 50)) dNil))) (dC (.int 25))) (dgName 3))
    (dSeq (dAsg (dComp ["_law_k"] [3, 1, 2, 0] [0] (diRng1 (dCons (dOp dAdd (dC (.int 4)) (dCall dspDraw (dCons (dVar 0) (dCons (dC (.int 4)) dNil)))) dNil)) (dgName 0) dNoT (dOp dAdd (dVar 1) (dCall dspDraw (dCons (dVar 4) (dCons (dOp dAdd (dOp dAdd (dOp dMul2 (dC (.int 2)) (dVar 2)) (dOp dMul2 (dC (.int 2)) (dVar 3))) (dC (.int 1))) dNil))))) (dgName 4))
    (dRet (dTup (dCons (dVar 4) (dCons (dVar 1) (dCons (dVar 2) dNil)))))))))
def dsp_law_clocks : DSp := bodySp w_law_clocks N_law_clocks 1
abbrev N_law_kind : List Str := ["_law_e", "_law_kinds"]
@[reducible] def w_law_kind : DS := (dSeq (dAsg (dOp dAdd (dCall dsp_law_kinds_one (dCons (dVar 0) dNil)) (dCall dsp_law_kinds_two (dCons (dVar 0) dNil))) (dgName 1))
    (dSeq (dIfS (dAnd (dTest (dOp dEq (dCB dLen (dCons (dVar 1) dNil)) (dC (.int 1)))) (dTest (dCB (dIsE excEs excKs) (dCons (dVar 0) (dCons (dC (.ty "ValueError")) dNil)))))
    (dRet (dOp dIx (dVar 1) (dC (.int 0))))
    dNext)
    (dRet (dC (.str "mixed")))))
def dsp_law_kind : DSp := bodySp w_law_kind N_law_kind 1
abbrev N_law_bend : List Str := ["_law_s", "_law_heard_here", "_law_gains", "_law_stands", "_law_state", "_law_fault", "_law_more", "_law_way", "_law_able", "_law_at", "_law_told", "_law_other", "_law_quiet"]
@[reducible] def w_law_bend : DS := (dSeq (dAsg (dCall dspDraw (dCons (dVar 0) (dCons (dC (.int 9)) dNil))) (dgName 7))
    (dSeq (dAsg (dComp ["_law_at"] [4] [0] (diRng1 (dCons (dCB dLen (dCons (dVar 4) dNil)) dNil)) (dgName 0) (dTest (dOp dNe (dOp dIx (dVar 1) (dVar 0)) (dC (.int 1)))) (dVar 0)) (dgName 8))
    (dSeq (dAsg (dOp dIx (dVar 8) (dCall dspDraw (dCons (dVar 0) (dCons (dCB dLen (dCons (dVar 8) dNil)) dNil)))) (dgName 9))
    (dSeq (dAsg (dComp ["_law_one"] [4] [0] (diRng1 (dCons (dCB dLen (dCons (dVar 4) dNil)) dNil)) (dgName 0) (dTest (dOp dEq (dOp dIx (dVar 1) (dVar 0)) (dC (.int 0)))) (dVar 0)) (dgName 10))
    (dSeq (dAsg (dOp dIx (dVar 10) (dCall dspDraw (dCons (dVar 0) (dCons (dCB dLen (dCons (dVar 10) dNil)) dNil)))) (dgName 11))
    (dIfS (dTest (dOp dEq (dVar 7) (dC (.int 0))))
    (dAsg (dOp dAdd (dOp dAdd (dOp dIx (dVar 3) (dVar 11)) (dVar 5)) (dC (.int 1))) (dgSub (dOp dIx (dVar 1) (dVar 9)) (dVar 11) dSetIx))
    (dIfS (dTest (dOp dEq (dVar 7) (dC (.int 1))))
    (dAsg (dOp dSub (dOp dIx (dVar 3) (dVar 11)) (dC (.int 1))) (dgSub (dOp dIx (dVar 1) (dVar 9)) (dVar 11) dSetIx))
    (dIfS (dTest (dOp dEq (dVar 7) (dC (.int 2))))
    (dAsg (dC .non) (dgSub (dOp dIx (dVar 1) (dVar 9)) (dVar 11) dSetIx))
    (dIfS (dTest (dOp dEq (dVar 7) (dC (.int 3))))
    (dAsg (dOp dIx (dLst (dCons (dOp dAdd (dVar 6) (dC (.int 1))) (dCons (dUn dNeg (dC (.int 1))) (dCons (dC (.bl true)) dNil)))) (dCall dspDraw (dCons (dVar 0) (dCons (dC (.int 3)) dNil)))) (dgSub (dVar 2) (dVar 9) dSetIx))
    (dIfS (dTest (dOp dEq (dVar 7) (dC (.int 4))))
    (dDrop (dBM "list" dAppend (dOp dIx (dVar 1) (dVar 9)) (dCons (dOp dIx (dVar 3) (dVar 11)) dNil)))
    (dIfS (dTest (dOp dEq (dVar 7) (dC (.int 5))))
    (dDrop (dBM0 "list" dPopM (dOp dIx (dVar 1) (dVar 9))))
    (dIfS (dTest (dOp dEq (dVar 7) (dC (.int 6))))
    (dDrop (dBM0 "list" dPopM (dVar 2)))
    (dIfS (dTest (dOp dEq (dVar 7) (dC (.int 7))))
    (dDrop (dBM "list" dAppend (dVar 1) (dCons (dCB dList (dCons (dOp dIx (dVar 1) (dVar 9)) dNil)) dNil)))
    (dSeq (dAsg (dComp ["_law_one"] [4] [0] (diRng1 (dCons (dCB dLen (dCons (dVar 4) dNil)) dNil)) (dgName 0) (dTest (dOp dEq (dOp dIx (dVar 1) (dVar 0)) (dC (.int 2)))) (dVar 0)) (dgName 12))
    (dIfS (dTest (dOp dGt (dCB dLen (dCons (dVar 12) dNil)) (dC (.int 0))))
    (dAsg (dOp dIx (dVar 3) (dVar 11)) (dgSub (dOp dIx (dVar 1) (dVar 9)) (dOp dIx (dVar 12) (dC (.int 0))) dSetIx))
    (dAsg (dC (.bl true)) (dgSub (dOp dIx (dVar 1) (dVar 9)) (dVar 11) dSetIx)))))))))))))))))
def dsp_law_bend : DSp := bodySp w_law_bend N_law_bend 7
abbrev N_check_number : List Str := ["number", "least", "most"]
@[reducible] def w_check_number : DS := (dSeq (dDrop (dCall dsp_check_whole (dCons (dVar 0) dNil)))
    (dIfS (dNot (dTest (dChain dLe dLe (dVar 1) (dVar 0) (dVar 2))))
    dNever
    dNext))
def dsp_check_number : DSp := bodySp w_check_number N_check_number 3
@[reducible] def w_check_numberX (Ex : DXE) : DS := (dSeq (dDrop (dCallX dsp_check_wholeX Ex 1 0 [.p 0] [] (dCons (dVar 0) dNil) dNil))
    (dIfS (dNot (dTest (dChain dLe dLe (dVar 1) (dVar 0) (dVar 2))))
    (dRaise "BadNumber" Ex (dCons (dC (.str "not a number within its bounds")) dNil))
    dNext))
def dsp_check_numberX : DSpX := bodySpX w_check_numberX N_check_number 3
abbrev N_middle : List Str := ["numbers", "number", "left"]
@[reducible] def w_middle : DS := (dSeq (dIfS (dTest (dOp dLt (dCB dLen (dCons (dVar 0) dNil)) (dC (.int 3))))
    dNever
    dNext)
    (dSeq (dFor (diSeq (dVar 0)) (dgName 1)
    (dDrop (dCall dsp_check_whole (dCons (dVar 1) dNil))))
    (dSeq (dAsg (dSl dSlG (dCB dSorted (dCons (dVar 0) dNil)) (dPart (dC (.int 1))) (dPart (dUn dNeg (dC (.int 1))))) (dgName 2))
    (dRet (dOp dFdiv (dOp dAdd (dOp dIx (dVar 2) (dC (.int 0))) (dOp dIx (dVar 2) (dUn dNeg (dC (.int 1))))) (dC (.int 2)))))))
def dsp_middle : DSp := bodySp w_middle N_middle 1
@[reducible] def w_middleX (Ex : DXE) : DS := (dSeq (dIfS (dTest (dOp dLt (dCB dLen (dCons (dVar 0) dNil)) (dC (.int 3))))
    (dRaise "TooFew" Ex (dCons (dC (.str "fewer than three numbers")) dNil))
    dNext)
    (dSeq (dFor (diSeq (dVar 0)) (dgName 1)
    (dDrop (dCallX dsp_check_wholeX Ex 1 0 [.p 0] [] (dCons (dVar 1) dNil) dNil)))
    (dSeq (dAsg (dSl dSlG (dCB dSorted (dCons (dVar 0) dNil)) (dPart (dC (.int 1))) (dPart (dUn dNeg (dC (.int 1))))) (dgName 2))
    (dRet (dOp dFdiv (dOp dAdd (dOp dIx (dVar 2) (dC (.int 0))) (dOp dIx (dVar 2) (dUn dNeg (dC (.int 1))))) (dC (.int 2)))))))
def dsp_middleX : DSpX := bodySpX w_middleX N_middle 1
abbrev N_slack_of : List Str := ["err", "gain"]
@[reducible] def w_slack_of : DS := (dSeq (dDrop (dCall dsp_check_whole (dCons (dVar 0) dNil)))
    (dSeq (dDrop (dCall dsp_check_whole (dCons (dVar 1) dNil)))
    (dRet (dOp dAdd (dOp dMul2 (dC (.int 2)) (dVar 0)) (dOp dMul2 (dC (.int 2)) (dVar 1))))))
def dsp_slack_of : DSp := bodySp w_slack_of N_slack_of 2
abbrev N_ClocksD_initD : List Str := ["self", "stands", "err", "gain", "stand"]
@[reducible] def w_ClocksD_initD : DS := (dSeq (dDrop (dCall dsp_check_count (dCons (dVar 1) dNil)))
    (dSeq (dDrop (dCall dsp_check_number (dCons (dVar 2) (dCons (dC (.int 0)) (dCons (dC (.int 1000)) dNil)))))
    (dSeq (dDrop (dCall dsp_check_number (dCons (dVar 3) (dCons (dC (.int 0)) (dCons (dC (.int 1000)) dNil)))))
    (dSeq (dFor (diSeq (dVar 1)) (dgName 4)
    (dDrop (dCall dsp_check_whole (dCons (dVar 4) dNil))))
    (dSeq (dIfS (dTest (dOp dGt (dOp dSub (dCB dMax (dCons (dVar 1) dNil)) (dCB dMin (dCons (dVar 1) dNil))) (dCall dsp_slack_of (dCons (dVar 2) (dCons (dVar 3) dNil)))))
    dNever
    dNext)
    (dSeq (dSetF tab (dVar 0) (dCB dList (dCons (dVar 1) dNil)) "stands")
    (dSeq (dSetF tab (dVar 0) (dVar 2) "err")
    (dSeq (dSetF tab (dVar 0) (dVar 3) "gain")
    (dSeq (dSetF tab (dVar 0) (dC .non) "fallen")
    (dSetF tab (dVar 0) (dC .non) "listening"))))))))))
def dsp_ClocksD_initD : DSp := bodySp w_ClocksD_initD N_ClocksD_initD 4
abbrev N_Clocks_check_place : List Str := ["self", "at"]
@[reducible] def w_Clocks_check_place : DS := (dDrop (dCall dsp_check_number (dCons (dVar 1) (dCons (dC (.int 0)) (dCons (dOp dSub (dCB dLen (dCons (dFld tab (dVar 0) "stands") dNil)) (dC (.int 1))) dNil)))))
def dsp_Clocks_check_place : DSp := bodySp w_Clocks_check_place N_Clocks_check_place 2
abbrev N_Clocks_check_word : List Str := ["self", "place", "word"]
@[reducible] def w_Clocks_check_word : DS := (dIfS (dTest (dOp dEq (dVar 1) (dFld tab (dVar 0) "listening")))
    (dIfS (dTest (dOp dIsNot (dVar 2) (dC .non)))
    dNever
    dNext)
    (dIfS (dTest (dOp dEq (dVar 1) (dFld tab (dVar 0) "fallen")))
    (dIfS (dTest (dOp dIsNot (dVar 2) (dC .non)))
    (dDrop (dCall dsp_check_whole (dCons (dVar 2) dNil)))
    dNext)
    (dDrop (dCall dsp_check_number (dCons (dVar 2) (dCons (dOp dIx (dFld tab (dVar 0) "stands") (dVar 1)) (dCons (dOp dAdd (dOp dIx (dFld tab (dVar 0) "stands") (dVar 1)) (dFld tab (dVar 0) "err")) dNil)))))))
def dsp_Clocks_check_word : DSp := bodySp w_Clocks_check_word N_Clocks_check_word 3
@[reducible] def w_Clocks_check_wordX (Ex : DXE) : DS := (dIfS (dTest (dOp dEq (dVar 1) (dFld tab (dVar 0) "listening")))
    (dIfS (dTest (dOp dIsNot (dVar 2) (dC .non)))
    (dRaise "BadNumber" Ex (dCons (dC (.str "a word of a clock that listens")) dNil))
    dNext)
    (dIfS (dTest (dOp dEq (dVar 1) (dFld tab (dVar 0) "fallen")))
    (dIfS (dTest (dOp dIsNot (dVar 2) (dC .non)))
    (dDrop (dCallX dsp_check_wholeX Ex 1 0 [.p 0] [] (dCons (dVar 2) dNil) dNil))
    dNext)
    (dDrop (dCallX dsp_check_numberX Ex 3 0 [.p 0, .p 1, .p 2] [] (dCons (dVar 2) (dCons (dOp dIx (dFld tab (dVar 0) "stands") (dVar 1)) (dCons (dOp dAdd (dOp dIx (dFld tab (dVar 0) "stands") (dVar 1)) (dFld tab (dVar 0) "err")) dNil))) dNil))))
def dsp_Clocks_check_wordX : DSpX := bodySpX w_Clocks_check_wordX N_Clocks_check_word 3
abbrev N_Clocks_fall : List Str := ["self", "at"]
@[reducible] def w_Clocks_fall : DS := (dSeq (dDrop (dMeth "Clocks" "check_place" dsp_Clocks_check_place 2 0 [.p 0, .p 1] [] (dVar 0) (dCons (dVar 1) dNil) dNil))
    (dSeq (dIfS (dOr (dTest (dOp dIsNot (dFld tab (dVar 0) "fallen") (dC .non))) (dTest (dOp dIsNot (dFld tab (dVar 0) "listening") (dC .non))))
    dNever
    dNext)
    (dSetF tab (dVar 0) (dVar 1) "fallen")))
def dsp_Clocks_fall : DSp := bodySp w_Clocks_fall N_Clocks_fall 2
abbrev N_Clocks_rise : List Str := ["self", "at"]
@[reducible] def w_Clocks_rise : DS := (dSeq (dDrop (dMeth "Clocks" "check_place" dsp_Clocks_check_place 2 0 [.p 0, .p 1] [] (dVar 0) (dCons (dVar 1) dNil) dNil))
    (dSeq (dIfS (dTest (dOp dNe (dFld tab (dVar 0) "fallen") (dVar 1)))
    dNever
    dNext)
    (dSeq (dSetF tab (dVar 0) (dC .non) "fallen")
    (dSetF tab (dVar 0) (dVar 1) "listening"))))
def dsp_Clocks_rise : DSp := bodySp w_Clocks_rise N_Clocks_rise 2
abbrev N_Clocks_stand_behind : List Str := ["self", "at", "row", "gain", "place", "word"]
@[reducible] def w_Clocks_stand_behind : DS := (dSeq (dIfS (dTest (dOp dEq (dVar 1) (dFld tab (dVar 0) "fallen")))
    (dRet (dOp dIx (dFld tab (dVar 0) "stands") (dVar 1)))
    dNext)
    (dSeq (dDrop (dMeth "Clocks" "check_length" dsp_Clocks_check_length 2 0 [.p 0, .p 1] [] (dVar 0) (dCons (dVar 2) dNil) dNil))
    (dSeq (dFor (diEnum (dCons (dVar 2) dNil)) (dgTup 2 (dgCons (dgName 4) (dgCons (dgName 5) dgNil)))
    (dDrop (dMeth "Clocks" "check_word" dsp_Clocks_check_word 3 0 [.p 0, .p 1, .p 2] [] (dVar 0) (dCons (dVar 4) (dCons (dVar 5) dNil)) dNil)))
    (dSeq (dDrop (dCall dsp_check_number (dCons (dVar 3) (dCons (dC (.int 0)) (dCons (dFld tab (dVar 0) "gain") dNil)))))
    (dRet (dOp dAdd (dCall dsp_middle (dCons (dComp ["word"] [] [0] (diSeq (dVar 2)) (dgName 0) (dTest (dOp dIsNot (dVar 0) (dC .non))) (dVar 0)) dNil)) (dVar 3)))))))
def dsp_Clocks_stand_behind : DSp := bodySp w_Clocks_stand_behind N_Clocks_stand_behind 4
@[reducible] def w_Clocks_stand_behindX (Ex : DXE) : DS := (dSeq (dIfS (dTest (dOp dEq (dVar 1) (dFld tab (dVar 0) "fallen")))
    (dRet (dOp dIx (dFld tab (dVar 0) "stands") (dVar 1)))
    dNext)
    (dSeq (dDrop (dMethX "Clocks" "check_length" dsp_Clocks_check_lengthX Ex 2 0 [.p 0, .p 1] [] (dVar 0) (dCons (dVar 2) dNil) dNil))
    (dSeq (dFor (diEnum (dCons (dVar 2) dNil)) (dgTup 2 (dgCons (dgName 4) (dgCons (dgName 5) dgNil)))
    (dDrop (dMethX "Clocks" "check_word" dsp_Clocks_check_wordX Ex 3 0 [.p 0, .p 1, .p 2] [] (dVar 0) (dCons (dVar 4) (dCons (dVar 5) dNil)) dNil)))
    (dSeq (dDrop (dCallX dsp_check_numberX Ex 3 0 [.p 0, .p 1, .p 2] [] (dCons (dVar 3) (dCons (dC (.int 0)) (dCons (dFld tab (dVar 0) "gain") dNil))) dNil))
    (dRet (dOp dAdd (dCallX dsp_middleX Ex 1 0 [.p 0] [] (dCons (dComp ["word"] [] [0] (diSeq (dVar 2)) (dgName 0) (dTest (dOp dIsNot (dVar 0) (dC .non))) (dVar 0)) dNil) dNil) (dVar 3)))))))
def dsp_Clocks_stand_behindX : DSpX := bodySpX w_Clocks_stand_behindX N_Clocks_stand_behind 4
abbrev N_Clocks_turn : List Str := ["self", "heard", "gains", "stands"]
@[reducible] def w_Clocks_turn : DS := (dSeq (dDrop (dMeth "Clocks" "check_length" dsp_Clocks_check_length 2 0 [.p 0, .p 1] [] (dVar 0) (dCons (dVar 1) dNil) dNil))
    (dSeq (dDrop (dMeth "Clocks" "check_length" dsp_Clocks_check_length 2 0 [.p 0, .p 1] [] (dVar 0) (dCons (dVar 2) dNil) dNil))
    (dSeq (dAsg (dComp ["at"] [2, 1, 0] [0] (diRng1 (dCons (dCB dLen (dCons (dFld tab (dVar 0) "stands") dNil)) dNil)) (dgName 0) dNoT (dMeth "Clocks" "stand_behind" dsp_Clocks_stand_behind 4 0 [.p 0, .p 1, .p 2, .p 3] [] (dVar 3) (dCons (dVar 0) (dCons (dOp dIx (dVar 2) (dVar 0)) (dCons (dOp dIx (dVar 1) (dVar 0)) dNil))) dNil)) (dgName 3))
    (dSeq (dSetF tab (dVar 0) (dVar 3) "stands")
    (dSetF tab (dVar 0) (dC .non) "listening")))))
def dsp_Clocks_turn : DSp := bodySp w_Clocks_turn N_Clocks_turn 3
@[reducible] def w_Clocks_turnX (Ex : DXE) : DS := (dSeq (dDrop (dMethX "Clocks" "check_length" dsp_Clocks_check_lengthX Ex 2 0 [.p 0, .p 1] [] (dVar 0) (dCons (dVar 1) dNil) dNil))
    (dSeq (dDrop (dMethX "Clocks" "check_length" dsp_Clocks_check_lengthX Ex 2 0 [.p 0, .p 1] [] (dVar 0) (dCons (dVar 2) dNil) dNil))
    (dSeq (dAsg (dCompX ["at"] [2, 1, 0] [0] (diRng1 (dCons (dCB dLen (dCons (dFld tab (dVar 0) "stands") dNil)) dNil)) (dgName 0) dNoT (fun Ex => (dMethX "Clocks" "stand_behind" dsp_Clocks_stand_behindX Ex 4 0 [.p 0, .p 1, .p 2, .p 3] [] (dVar 3) (dCons (dVar 0) (dCons (dOp dIx (dVar 2) (dVar 0)) (dCons (dOp dIx (dVar 1) (dVar 0)) dNil))) dNil)) Ex) (dgName 3))
    (dSeq (dSetF tab (dVar 0) (dVar 3) "stands")
    (dSetF tab (dVar 0) (dC .non) "listening")))))
def dsp_Clocks_turnX : DSpX := bodySpX w_Clocks_turnX N_Clocks_turn 3
abbrev N_law : List Str := ["_law_script", "_law_s", "_law_stands", "_law_fault", "_law_more", "_law_clocks_here", "_law_state", "_law_kind_here", "_law_at", "_law_heard_here", "_law_gains", "_law_bent", "_law_wrong", "_law_ahead", "_law_got", "_law_e", "_law_due"]
@[reducible] def w_law : DS := (dSeq (dAsg (dCall dspStart (dCons (dVar 0) dNil)) (dgName 1))
    (dSeq (dAsg (dCall dsp_law_clocks (dCons (dVar 1) dNil)) (dgTup 3 (dgCons (dgName 2) (dgCons (dgName 3) (dgCons (dgName 4) dgNil)))))
    (dSeq (dAsg (dMake "Clocks" dsp_ClocksD_initD 2 2 [.p 0, .p 1, .k 0, .k 1] [] (dCons (dVar 2) dNil) (dCons (dVar 3) (dCons (dVar 4) dNil))) (dgName 5))
    (dSeq (dAsg (dCompC ["_law_one"] [] [0] (diSeq (dVar 2)) (dgName 0) dNoT (dC (.int 0))) (dgName 6))
    (dSeq (dAsg (dCall dspDraw (dCons (dVar 1) (dCons (dC (.int 3)) dNil))) (dgName 7))
    (dSeq (dIfS (dTest (dOp dGt (dVar 7) (dC (.int 0))))
    (dSeq (dAsg (dCall dspDraw (dCons (dVar 1) (dCons (dCB dLen (dCons (dVar 6) dNil)) dNil))) (dgName 8))
    (dSeq (dDrop (dMeth "Clocks" "fall" dsp_Clocks_fall 2 0 [.p 0, .p 1] [] (dVar 5) (dCons (dVar 8) dNil) dNil))
    (dSeq (dIfS (dTest (dOp dEq (dVar 7) (dC (.int 2))))
    (dDrop (dMeth "Clocks" "rise" dsp_Clocks_rise 2 0 [.p 0, .p 1] [] (dVar 5) (dCons (dVar 8) dNil) dNil))
    dNext)
    (dAsg (dVar 7) (dgSub (dVar 6) (dVar 8) dSetIx)))))
    dNext)
    (dSeq (dAsg (dComp ["_law_one"] [3, 1, 2, 6] [0] (diSeq (dVar 6)) (dgName 0) dNoT (dCall dsp_law_heard (dCons (dVar 2) (dCons (dVar 3) (dCons (dComp ["_law_one"] [] [0] (diSeq (dVar 4)) (dgName 0) dNoT (dOp dEq (dVar 0) (dC (.int 0)))) (dCons (dVar 1) (dCons (dOp (dInN false) (dC (.int 1)) (dVar 4)) dNil))))))) (dgName 9))
    (dSeq (dAsg (dComp ["_law_one"] [4, 1] [0] (diSeq (dVar 6)) (dgName 0) dNoT (dCall dspDraw (dCons (dVar 2) (dCons (dOp dAdd (dVar 1) (dC (.int 1))) dNil)))) (dgName 10))
    (dSeq (dAsg (dCompC ["_law_row"] [] [0] (diSeq (dVar 9)) (dgName 0) dNoT (dCB dListC (dCons (dVar 0) dNil))) (dgName 11))
    (dSeq (dAsg (dCB dListC (dCons (dVar 10) dNil)) (dgName 12))
    (dSeq (dDrop (dCall dsp_law_bend (dCons (dVar 1) (dCons (dVar 11) (dCons (dVar 12) (dCons (dVar 2) (dCons (dVar 6) (dCons (dVar 3) (dCons (dVar 4) dNil)))))))))
    (dSeq (dAsg (dMeth "Clocks" "told" dsp_Clocks_told 1 0 [.p 0] [] (dVar 5) dNil dNil) (dgName 13))
    (dSeq (dAsg (dC (.str "none")) (dgName 14))
    (dSeq (dTry excEs 15 (fun Ex => (dDrop (dMethX "Clocks" "turn" dsp_Clocks_turnX Ex 3 0 [.p 0, .p 1, .p 2] [] (dVar 5) (dCons (dVar 11) (dCons (dVar 12) dNil)) dNil)))
    (dAsg (dCall dsp_law_kind (dCons (dVar 15) dNil)) (dgName 14)))
    (dSeq (dIfS (dOr (dTest (dOp dNe (dVar 14) (dC (.str "BadNumber")))) (dTest (dOp dNe (dMeth "Clocks" "told" dsp_Clocks_told 1 0 [.p 0] [] (dVar 5) dNil dNil) (dVar 13))))
    (dRet (dC (.bl false)))
    dNext)
    (dSeq (dIfS (dTest (dOp dNe (dVar 13) (dComp ["_law_k"] [2, 6] [0] (diRng1 (dCons (dCB dLen (dCons (dVar 6) dNil)) dNil)) (dgName 0) dNoT (dIf (dTest (dOp dEq (dOp dIx (dVar 2) (dVar 0)) (dC (.int 0)))) (dOp dIx (dVar 1) (dVar 0)) (dC .non)))))
    (dRet (dC (.bl false)))
    dNext)
    (dSeq (dDrop (dMeth "Clocks" "turn" dsp_Clocks_turn 3 0 [.p 0, .p 1, .p 2] [] (dVar 5) (dCons (dVar 9) (dCons (dVar 10) dNil)) dNil))
    (dSeq (dAsg (dComp ["_law_k"] [10, 9, 6] [0] (diRng1 (dCons (dCB dLen (dCons (dVar 6) dNil)) dNil)) (dgName 0) dNoT (dIf (dTest (dOp dEq (dOp dIx (dVar 3) (dVar 0)) (dC (.int 1)))) (dC .non) (dOp dAdd (dCall dsp_law_middle (dCons (dOp dIx (dVar 2) (dVar 0)) dNil)) (dOp dIx (dVar 1) (dVar 0))))) (dgName 16))
    (dRet (dOp dEq (dMeth "Clocks" "told" dsp_Clocks_told 1 0 [.p 0] [] (dVar 5) dNil dNil) (dVar 16)))))))))))))))))))))
end M

set_option synthInstance.maxHeartbeats 4000000
set_option synthInstance.maxSize 100000
set_option maxHeartbeats 4000000
namespace M
open PySem L2
local macro_rules | `(tactic| rw_mod_cast [$rs,*]) => do
  let ts : Array (Lean.TSyntax `term) := rs.getElems.map fun r => ⟨r.raw[1]⟩
  let ids : Array (Lean.TSyntax `term) := (("dSeq dAsg dVar dC dOp dUn e_test dAnd dOr dNot dAndV dOrV dNotV dIf e_chain chK_bl blK_bl intK_int dNil dCons dInts dTup dLst dLstC dNext dBreak dCont dDrop dRet dRetN dIfS dNever dgName dgNil e_gcons e_gtup e_par parK_two dAug dFreeze e_frz frzK_lst frzK_dct frzK_dtt frzK_ins dFor dCall dCB dComp dCompC e_rng1 rng1K_e e_rng2 rng2K_e e_zip zipK_e diSeq e_seql e_seqt e_seqc e_lsl e_lsc cellK_lst optK_some optM_some dSl dNoPart e_part e_slt e_sll dNoT dgSub e_setix e_cellL dBM dBM0 e_append e_pop0 e_pop1 e_tyc tyC_lst e_tyl e_tys e_add e_adds e_addt e_addl dSub dFdiv dMod dPow dLt dGt dLe dGe dISub dIMul e_i0 e_i e_neg e_mul e_iadd e_ixt e_ixl e_ixc e_ixs e_lens e_lenl e_lent e_lenc e_listl e_listt e_listc e_listCl e_listCt e_tuplel e_tuplet e_abs e_max2 e_min2 e_maxl e_minl e_suml e_alll e_anyl intsOf_nil intsOf_cons intsOf_map blsOf_nil blsOf_cons e_is e_isnot isNon_non isNon_int isNon_str isNon_bl isNon_lst isNon_tup isNon_cell Nat.reduceAdd Int.cast_ofNat_Int Int.reduceEq decide_true decide_false List.all_cons List.all_nil List.any_cons List.any_nil id_eq Bool.and_true Bool.true_and Bool.or_false ist_non_int ist_non_bool ist_bl_int ist_bl_bool ist_int_int ist_int_bool ist_tup_int ist_tup_bool ist_tup_str ist_tup_list ist_tup_tuple ist_tup_dict diEnum enumK_e dCallS dCallX dMethX dRaise dTry hEndsD e_isE1 e_isE2 e_isBi e_isBb dFStr djNil djCons dFmt dMakeX dMakeFX e_mulBb e_mulBi dLenSet e_ins e2_mul dFld fldK insM_obj insM_cell insK_ins e_setf setK_cell dMeth dMake e_makeF atI_5 fo_Clocks_stands sf_Clocks_stands sp_Clocks_stands fo_Clocks_err sp_Clocks_err fo_Clocks_gain sp_Clocks_gain fo_Clocks_fallen sf_Clocks_fallen sp_Clocks_fallen fo_Clocks_listening sf_Clocks_listening sp_Clocks_listening lm_Clocks_check_length lm_Clocks_check_place lm_Clocks_check_word lm_Clocks_fall lm_Clocks_rise lm_Clocks_stand_behind lm_Clocks_told lm_Clocks_turn sel pick List.getD_cons_zero List.getD_cons_succ beq_self_eq_true Bool.and_self cond_true dEq_int dNe_int dNe_str e_draw e_start startD ends takeD mset_same atI_0 atI_1 atI_2 atI_3 atI_4 atI_m1 atI_m2 atI_m3 atI_m4 atI_m5 List.length_cons List.length_nil List.map_cons List.map_nil List.set_cons_zero List.set_cons_succ List.getElem?_cons_zero List.getElem?_cons_succ List.cons_append List.nil_append List.replicate Option.join_some Option.join_none true_and and_true if_true Bool.true_eq_false Bool.false_eq_true if_false Bool.not_true Bool.not_false".splitOn " ").map fun s => (⟨Lean.mkIdent s.toName⟩ : Lean.TSyntax `term)).toArray
  let all := ids ++ ts
  `(tactic| simp only [↓sl6_to2, ↓sl6_to3, ↓sl6_to4, ↓sl6_to5, ↓sl6_from1, ↓sl6_from2, ↓sl6_from4, ↓sl6_from5, $[$all:term],*])
local macro_rules | `(tactic| walk_at "e") => `(tactic| rw_mod_cast [])
local macro_rules | `(tactic| walk_at "x") => `(tactic| repeat' first | exact ev_c | exact evs_nil | exact ev_var rfl | with_reducible apply evs_cons | with_reducible apply ev_op | exact ev_ixt atI_0 | exact ev_ixt atI_1 | exact ev_ixt atI_2 | exact ev_ixt atI_3 | exact ev_ixt atI_4 | exact ev_ixt atI_5 | exact ev_ixl atI_0 | exact ev_ixl atI_1 | exact ev_eqi | exact ev_add | apply ev_addt | with_reducible apply ev_tup | with_reducible apply ev_lst | with_reducible apply ev_cb | exact ev_tuplel | with_reducible apply ev_to1 | with_reducible apply ev_to2 | with_reducible apply ev_to3 | with_reducible apply ev_to4 | with_reducible apply ev_to5 | with_reducible apply ev_from1 | with_reducible apply ev_from2 | with_reducible apply ev_from3 | with_reducible apply ev_from4 | with_reducible apply ev_from5 | (show _ ≠ []; simp; done) | (show _ < List.length _; simp; done) | (show List.length _ <= 1000; simp; done) | (show List.length _ + List.length _ <= 1000; simp; done))
theorem isn_ok {i : Int} {μ : Mu} {Q : DK} (q : Q (.bl true) μ) : dsp_is_number [.int i] μ Q := by
  refine ⟨rfl, ?_⟩
  walk_at "e"
  exact ⟨_, .refl _, q⟩
theorem chkw_ok {i : Int} {μ : Mu} {Q : DK} (q : Q .non μ) : dsp_check_whole [.int i] μ Q := by
  refine ⟨rfl, ?_⟩
  walk_at "e"
  refine isn_ok ?_
  walk_at "e"
  exact ⟨_, .refl _, q⟩
set_option synthInstance.maxHeartbeats 4000000
set_option synthInstance.maxSize 100000
set_option maxHeartbeats 4000000
theorem sorted_unique : ∀ {l1 l2 : List Int}, List.Perm l1 l2 -> List.Pairwise (· <= ·) l1 -> List.Pairwise (· <= ·) l2 -> l1 = l2
  | [], l2, h, _, _ => by rw [List.nil_perm.mp h]
  | x :: xs, [], h, _, _ => by have := h.length_eq; simp at this
  | x :: xs, y :: ys, h, h1, h2 => by
    rw [List.pairwise_cons] at h1 h2
    have a : y <= x := by
      have : x ∈ y :: ys := h.mem_iff.mp List.mem_cons_self
      rcases List.mem_cons.mp this with e | e
      . rw [e]; exact Int.le_refl _
      . exact h2.1 x e
    have b : x <= y := by
      have : y ∈ x :: xs := h.mem_iff.mpr List.mem_cons_self
      rcases List.mem_cons.mp this with e | e
      . rw [e]; exact Int.le_refl _
      . exact h1.1 y e
    have e : x = y := Int.le_antisymm b a
    subst e
    rw [sorted_unique ((List.perm_cons x).mp h) h1.2 h2.2]
/-- the middle of numbers -/
def Mid (ns : List Int) (v : Int) : Prop := ∃ s a b, List.Perm s ns /\ List.Pairwise (· <= ·) s /\ s[1]? = some a /\ s[s.length - 2]? = some b /\ v = (a + b) / 2
theorem Mid.uniq {ns : List Int} {v w : Int} (h : Mid ns v) (h' : Mid ns w) : v = w := by
  obtain ⟨s, a, b, p, q, e1, e2, rfl⟩ := h
  obtain ⟨s', a', b', p', q', e1', e2', rfl⟩ := h'
  have := sorted_unique (p.trans p'.symm) q q'
  subst this
  rw [e1] at e1'; rw [e2] at e2'
  cases e1'; cases e2'; rfl
theorem cut_mid {α : Type} (xs : List α) (h : 2 <= xs.length) : cutD xs (some 1) (some (-1)) = (xs.drop 1).take (xs.length - 2) := by
  unfold cutD
  have e1 : HT.sIx xs.length 0 (some 1) = 1 := by
    have := HT.sIx_nat xs.length 0 1
    rw [Nat.min_eq_left (by omega)] at this; exact this
  have e2 : HT.sIx xs.length xs.length (some (-1)) = xs.length - 1 := by
    unfold HT.sIx; simp; omega
  rw [e1, e2]
  congr 1
theorem dEq_in {i : Int} {μ : Mu} {Q : DK} : dEq (.int i) .non μ Q = Q (.bl false) μ := by
  have e1 : EqOk (.int i) := ⟨by simp [PyData.canLay0], by simp [PyData.depth]⟩
  have e2 : EqOk .none := ⟨by simp [PyData.canLay0], by simp [PyData.depth]⟩
  have e3 : PyData.eqv (.int i) .none = false := by simp [PyData.eqv]
  unfold dEq dEqN
  simp only [toPyM, toPy, eq_true e1, eq_true e2, true_and, e3, Bool.xor_false]
theorem chkn_ok {i lo hi : Int} {μ : Mu} {Q : DK} (h1 : lo <= i) (h2 : i <= hi) (q : Q .non μ) : dsp_check_number [.int i, .int lo, .int hi] μ Q := by
  refine ⟨rfl, ?_⟩
  walk_at "e"
  refine chkw_ok ?_
  rw_mod_cast [decide_eq_true h1, decide_eq_true h2]
  exact ⟨_, .refl _, q⟩
theorem slack_ok {e g : Int} {μ : Mu} {Q : DK} (he : -(2 ^ 60) < e /\ e < 2 ^ 60) (hg : -(2 ^ 60) < g /\ g < 2 ^ 60) (q : Q (.int (2 * e + 2 * g)) μ) : dsp_slack_of [.int e, .int g] μ Q := by
  refine ⟨rfl, ?_⟩
  walk_at "e"
  refine chkw_ok (chkw_ok ?_)
  exact ⟨.inr ⟨by omega, by omega⟩, .inr ⟨by omega, by omega⟩, _, .refl _, q⟩
/-- each of a list of numbers is one -/
theorem mem_int {ns : List Int} {i : Nat} {d : D} (h : (ns.map D.int)[i]? = some d) : ∃ n, ns[i]? = some n /\ d = .int n := by
  rw [List.getElem?_map] at h
  cases e : ns[i]? with
  | none => rw [e] at h; cases h
  | some p => rw [e] at h; cases h; exact ⟨p, rfl, rfl⟩
theorem mid_parts {s : List Int} (h : 3 <= s.length) : ∃ a b, s[1]? = some a /\ s[s.length - 2]? = some b /\ atI (cutD (s.map D.int) (some 1) (some (-1))) 0 = some (.int a) /\ atI (cutD (s.map D.int) (some 1) (some (-1))) (-1) = some (.int b) := by
  have h1 : 1 < s.length := by omega
  have h2 : s.length - 2 < s.length := by omega
  refine ⟨s[1], s[s.length - 2], List.getElem?_eq_getElem h1, List.getElem?_eq_getElem h2, ?_, ?_⟩
  . rw [cut_mid _ (by rw [List.length_map]; omega)]
    refine atI_of (j := 0) rfl ?_
    rw [List.getElem?_take_of_lt (by rw [List.length_map]; omega), List.getElem?_drop, List.getElem?_map, List.getElem?_eq_getElem (show 1 + 0 < s.length by omega)]; rfl
  . rw [cut_mid _ (by rw [List.length_map]; omega), atI_neg1, List.getLast?_eq_getElem?]
    rw [List.length_take, List.length_drop, List.length_map, List.getElem?_take_of_lt (by omega), List.getElem?_drop, List.getElem?_map]
    rw [show 1 + (min (s.length - 2) (s.length - 1) - 1) = s.length - 2 by omega, List.getElem?_eq_getElem h2]; rfl
theorem mid_ok {ns : List Int} {μ : Mu} {Q : DK} (h3 : 3 <= ns.length) (hz : ns.length < 64) (q : ∀ v, Mid ns v -> Q (.int v) μ) : dsp_middle [.lst (ns.map D.int)] μ Q := by
  refine ⟨rfl, ?_⟩
  refine stp fun N1 h1 => ?_
  rw_mod_cast [List.length_map, show decide ((ns.length : Int) < 3) = false from decide_eq_false (by omega)]
  refine h1 _ _ (stp fun N2 h2 => ?_)
  walk_at "e"
  refine dLoop_by (fun i ρ μ' => ∃ x, ρ = [some (.lst (ns.map D.int)), x, none] /\ μ' = μ) ⟨_, rfl, rfl⟩ ?_ ?_
  . rintro i d ρ μ' hd ⟨x, rfl, rfl⟩ N hN
    obtain ⟨n, _, rfl⟩ := mem_int hd
    walk_at "e"
    exact chkw_ok (hN _ _ ⟨_, rfl, rfl⟩)
  rintro ρ μ' ⟨x, rfl, rfl⟩
  refine h2 _ _ (stp fun N3 h3' => ?_)
  walk_at "e"
  refine sorted_ints_ok hz fun s hp hs => ?_
  walk_at "e"
  refine h3' _ _ ?_
  obtain ⟨a, b, e1, e2, e3, e4⟩ := mid_parts (s := s) (by rw [hp.length_eq]; exact h3)
  rw_mod_cast [e3, e4]
  exact ⟨⟨by decide, by decide⟩, _, .refl _, q _ ⟨s, a, b, hp, hs, e1, e2, rfl⟩⟩
/-! ### words -/
def wordD : Option Int -> D
  | none => .non
  | some i => .int i
def nums (ws : List (Option Int)) : List Int := ws.filterMap id
theorem filt_words (ws : List (Option Int)) : (((ws.map wordD).filter fun d => !isNon d).map id) = (nums ws).map D.int := by
  rw [List.map_id]
  unfold nums
  induction ws with
  | nil => rfl
  | cons w r ih =>
    cases w with
    | none =>
      simp only [List.map_cons, wordD, List.filter_cons, isNon_non, Bool.not_true, Bool.false_eq_true, if_false, List.filterMap_cons, id]
      exact ih
    | some i =>
      simp only [List.map_cons, wordD, List.filter_cons, isNon_int, Bool.not_false, if_true, List.filterMap_cons, id]
      rw [ih]
/-- [word for word in row if word is not None] -/
theorem words_comp {ws : List (Option Int)} {Fin : List D -> Mu -> Prop} {μ : Mu} {own : DEnv} (hl : ws.length <= 60) (q : Fin ((nums ws).map D.int) μ) : dCLoop (dgName 0) (dTest (dOp dIsNot (dVar 0) (dC .non))) (dVar 0) (none :: own) (fun _ => True) Fin (ws.map wordD) [] μ := by
  have hs : (100 : Nat) <= sizeLine := by decide
  refine dCLoop_filter (fun d => !isNon d) id (by rw [List.length_map]; omega) (fun d hd Y Z hY hZ => ?_) ?_ trivial
  . walk_at "e"
    cases h : isNon d with
    | true => exact hZ (by rw [h]; rfl)
    | false => exact hY (by rw [h]; rfl)
  . rw [filt_words]; exact q
theorem lmid_ok {ws : List (Option Int)} {μ : Mu} {Q : DK} (h3 : 3 <= (nums ws).length) (hz : ws.length <= 60) (q : ∀ v, Mid (nums ws) v -> Q (.int v) μ) : dsp_law_middle [.lst (ws.map wordD)] μ Q := by
  refine ⟨rfl, ?_⟩
  refine stp fun N1 h1 => ?_
  walk_at "e"
  refine ⟨by decide, words_comp hz ?_⟩
  have hn : (nums ws).length <= ws.length := List.length_filterMap_le _ _
  refine sorted_ints_ok (by omega) fun s hp hs => ?_
  walk_at "e"
  refine h1 _ _ ?_
  obtain ⟨a, b, e1, e2, e3, e4⟩ := mid_parts (s := s) (by rw [hp.length_eq]; exact h3)
  rw_mod_cast [e3, e4]
  exact ⟨⟨by decide, by decide⟩, _, .refl _, q _ ⟨s, a, b, hp, hs, e1, e2, rfl⟩⟩
set_option synthInstance.maxHeartbeats 4000000
set_option synthInstance.maxSize 100000
set_option maxHeartbeats 4000000
/-! ### the clocks -/
def optN : Option Nat -> D
  | none => .non
  | some i => .int (i : Int)
structure Clk where
  st : List Int
  err : Int
  gain : Int
  fa : Option Nat
  li : Option Nat
def clkC (s : Clk) : Ct := .ins "Clocks" fs_Clocks [.lst (s.st.map D.int), .int s.err, .int s.gain, optN s.fa, optN s.li]
theorem dEq_optN {p : Nat} {o : Option Nat} {μ : Mu} {Q : DK} : dEq (.int (p : Int)) (optN o) μ Q = Q (.bl (decide (o = some p))) μ := by
  cases o with
  | none => rw [optN, dEq_in, decide_eq_false (by simp)]
  | some q =>
    rw [optN, dEq_int]
    by_cases h : q = p
    . subst h; simp
    . rw [decide_eq_false (by omega), decide_eq_false (by simpa using h)]
theorem chkl_ok {s : Clk} {k : Nat} {ds : List D} {μ : Mu} {Q : DK} (hk : μ k = some (clkC s)) (h : ds.length = s.st.length) (q : Q .non μ) : dsp_Clocks_check_length [.cell k, .lst ds] μ Q := by
  refine ⟨rfl, ?_⟩
  rw_mod_cast [hk, clkC, List.length_map, h]
  exact ⟨_, .refl _, q⟩
theorem chkp_ok {s : Clk} {k : Nat} {i : Int} {μ : Mu} {Q : DK} (hk : μ k = some (clkC s)) (h0 : 0 <= i) (h1 : i < s.st.length) (q : Q .non μ) : dsp_Clocks_check_place [.cell k, .int i] μ Q := by
  refine ⟨rfl, ?_⟩
  rw_mod_cast [hk, clkC, List.length_map]
  exact chkn_ok h0 (by omega) ⟨_, .refl _, q⟩
/-- a word that can be heard of the clock at that place -/
def WordOk (s : Clk) (p : Nat) (w : Option Int) : Prop := if s.li = some p then w = none else if s.fa = some p then True else ∃ i st, w = some i /\ s.st[p]? = some st /\ st <= i /\ i <= st + s.err
theorem chkwd_ok {s : Clk} {k p : Nat} {w : Option Int} {μ : Mu} {Q : DK} (hk : μ k = some (clkC s)) (h : WordOk s p w) (q : Q .non μ) : dsp_Clocks_check_word [.cell k, .int (p : Int), wordD w] μ Q := by
  refine ⟨rfl, ?_⟩
  rw_mod_cast [hk, clkC, dEq_optN]
  unfold WordOk at h
  by_cases c1 : s.li = some p
  . rw [if_pos c1] at h; subst h
    rw_mod_cast [decide_eq_true c1, wordD]
    exact ⟨_, .refl _, q⟩
  . rw [if_neg c1] at h
    rw_mod_cast [decide_eq_false c1]
    by_cases c2 : s.fa = some p
    . rw_mod_cast [decide_eq_true c2]
      cases w with
      | none => rw_mod_cast [wordD]; exact ⟨_, .refl _, q⟩
      | some i => rw_mod_cast [wordD]; exact chkw_ok ⟨_, .refl _, q⟩
    . rw [if_neg c2] at h
      obtain ⟨i, st, rfl, e, h1, h2⟩ := h
      rw_mod_cast [decide_eq_false c2, wordD, atI_map, atI_nat e, Option.map_some]
      exact chkn_ok h1 h2 ⟨_, .refl _, q⟩
theorem stb_ok {s : Clk} {k p : Nat} {ws : List (Option Int)} {g : Int} {μ : Mu} {Q : DK} (hk : μ k = some (clkC s)) (hp : s.fa ≠ some p) (hl : ws.length = s.st.length) (hn : s.st.length <= 7) (hw : ∀ j w, ws[j]? = some w -> WordOk s j w) (hg : 0 <= g /\ g <= s.gain) (h3 : 3 <= (nums ws).length) (q : ∀ v, Mid (nums ws) v -> Q (.int (v + g)) μ) : dsp_Clocks_stand_behind [.cell k, .int (p : Int), .lst (ws.map wordD), .int g] μ Q := by
  refine ⟨rfl, ?_⟩
  refine stp fun N1 h1 => ?_
  rw_mod_cast [hk, clkC, dEq_optN, decide_eq_false hp]
  refine h1 _ _ (stp fun N2 h2 => ?_)
  rw_mod_cast [hk, clkC]
  refine chkl_ok hk (by rw [List.length_map]; exact hl) (h2 _ _ (stp fun N3 h3' => ?_))
  walk_at "e"
  refine dLoop_by (fun i ρ μ' => ∃ x4 x5, ρ = [some (.cell k), some (.int (p : Int)), some (.lst (ws.map wordD)), some (.int g), x4, x5] /\ μ' = μ) ⟨_, _, rfl, rfl⟩ ?_ ?_
  . rintro i d ρ μ' hd ⟨x4, x5, rfl, rfl⟩ N hN
    obtain ⟨e, he, rfl⟩ := enumD_get hd
    rw [List.getElem?_map] at he
    cases hw' : ws[i]? with
    | none => rw [hw'] at he; cases he
    | some w =>
      rw [hw'] at he; cases he
      rw_mod_cast [hk, clkC]
      exact chkwd_ok hk (hw i w hw') (hN _ _ ⟨_, _, rfl, rfl⟩)
  rintro ρ μ' ⟨x4, x5, rfl, rfl⟩
  refine h3' _ _ (stp fun N4 h4 => ?_)
  rw_mod_cast [hk, clkC]
  refine chkn_ok hg.1 hg.2 (h4 _ _ ?_)
  walk_at "e"
  refine ⟨by decide, words_comp (by omega) ?_⟩
  have hlen : (nums ws).length <= ws.length := List.length_filterMap_le _ _
  refine mid_ok h3 (by omega) fun v hv => ?_
  walk_at "e"
  exact ⟨_, .refl _, q v hv⟩
theorem stf_ok {s : Clk} {k p : Nat} {st : Int} {d : D} {g : D} {μ : Mu} {Q : DK} (hk : μ k = some (clkC s)) (hp : s.fa = some p) (e : s.st[p]? = some st) (q : Q (.int st) μ) : dsp_Clocks_stand_behind [.cell k, .int (p : Int), d, g] μ Q := by
  refine ⟨rfl, ?_⟩
  refine stp fun N1 h1 => ?_
  rw_mod_cast [hk, clkC, dEq_optN, decide_eq_true hp, atI_map, atI_nat e, Option.map_some]
  exact ⟨_, .refl _, q⟩
set_option synthInstance.maxHeartbeats 4000000
set_option synthInstance.maxSize 100000
set_option maxHeartbeats 4000000
def rowD (ws : List (Option Int)) : D := .lst (ws.map wordD)
structure TurnOk (s : Clk) (heard : List (List (Option Int))) (gains : List Int) : Prop where
  n7 : s.st.length <= 7
  hl : heard.length = s.st.length
  gl : gains.length = s.st.length
  row : ∀ p ws g, heard[p]? = some ws -> gains[p]? = some g -> s.fa ≠ some p -> ws.length = s.st.length /\ (∀ j w, ws[j]? = some w -> WordOk s j w) /\ (0 <= g /\ g <= s.gain) /\ 3 <= (nums ws).length
/-- where the clock at a place stands behind the turn -/
def NewAt (s : Clk) (heard : List (List (Option Int))) (gains : List Int) (p : Nat) (z : Int) : Prop := (s.fa = some p -> s.st[p]? = some z) /\ (s.fa ≠ some p -> ∀ ws g, heard[p]? = some ws -> gains[p]? = some g -> ∃ v, Mid (nums ws) v /\ z = v + g)
theorem turn_ok {s : Clk} {k : Nat} {heard : List (List (Option Int))} {gains : List Int} {μ : Mu} {Q : DK} (hk : μ k = some (clkC s)) (h : TurnOk s heard gains) (q : ∀ st', st'.length = s.st.length -> (∀ p z, st'[p]? = some z -> NewAt s heard gains p z) -> Q .non (mset μ k (clkC ⟨st', s.err, s.gain, s.fa, none⟩))) :
    dsp_Clocks_turn [.cell k, .lst (heard.map rowD), .lst (gains.map D.int)] μ Q := by
  have hs : (100 : Nat) <= sizeLine := by decide
  refine ⟨rfl, ?_⟩
  refine stp fun N1 h1 => ?_
  rw_mod_cast [hk, clkC]
  refine chkl_ok hk (by rw [List.length_map]; exact h.hl) (h1 _ _ (stp fun N2 h2 => ?_))
  rw_mod_cast [hk, clkC]
  refine chkl_ok hk (by rw [List.length_map]; exact h.gl) (h2 _ _ (stp fun N3 h3 => ?_))
  rw_mod_cast [hk, clkC, List.length_map]
  refine ⟨by decide, by have := h.n7; omega, by have := h.n7; omega, ?_⟩
  refine dCLoopN_by (fun i ys μ2 => μ2 = μ /\ ∃ zs : List Int, ys = zs.map D.int /\ zs.length = i /\ ∀ p z, zs[p]? = some z -> NewAt s heard gains p z) ⟨rfl, [], rfl, rfl, fun p z e => by simp at e⟩ ?_ ?_
  . rintro i d ys μ2 hd ⟨rfl, zs, rfl, hz, hI⟩
    obtain ⟨hi, rfl⟩ := rangeL_get? hd
    rw [Int.toNat_natCast] at hi
    have n7 := h.n7
    refine ⟨by rw [List.length_map]; omega, fun N hN => ?_⟩
    have hi1 : i < heard.length := by rw [h.hl]; exact hi
    have hi2 : i < gains.length := by rw [h.gl]; exact hi
    have hh : heard[i]? = some heard[i] := List.getElem?_eq_getElem hi1
    have hg : gains[i]? = some gains[i] := List.getElem?_eq_getElem hi2
    have hst : s.st[i]? = some s.st[i] := List.getElem?_eq_getElem hi
    have e0 : (0 : Int) + (i : Int) = (i : Int) := by omega
    rw_mod_cast [e0, hk, clkC, atI_map, atI_nat hh, atI_nat hg, Option.map_some]
    have fin : ∀ z, NewAt s heard gains i z -> N (zs.map D.int ++ [.int z]) μ2 := fun z hz' => hN _ _ ⟨rfl, zs ++ [z], by rw [List.map_append]; rfl, by rw [List.length_append, hz]; rfl, fun p y hy => by
      by_cases hp : p < zs.length
      . rw [List.getElem?_append_left hp] at hy; exact hI p y hy
      . rw [List.getElem?_append_right (by omega)] at hy
        have e : p = i := by
          by_cases e2 : p - zs.length = 0
          . omega
          . rw [List.getElem?_eq_none (by simp; omega)] at hy; cases hy
        subst e
        rw [hz, Nat.sub_self] at hy
        cases hy; exact hz'⟩
    by_cases c : s.fa = some i
    . exact stf_ok hk c hst (fin _ ⟨fun _ => hst, fun n => absurd c n⟩)
    . obtain ⟨w1, w2, w3, w4⟩ := h.row i _ _ hh hg c
      exact stb_ok hk c w1 h.n7 w2 w3 w4 fun v hv => fin _ ⟨fun e => absurd e c, fun _ ws g e1 e2 => by
        rw [hh] at e1; rw [hg] at e2; cases e1; cases e2; exact ⟨v, hv, rfl⟩⟩
  . rintro ys μ2 ⟨rfl, zs, rfl, hz, hI⟩
    rw [rangeD_length, Int.toNat_natCast] at hz
    refine h3 _ _ (stp fun N4 h4 => ?_)
    rw_mod_cast [hk, clkC]
    refine h4 _ _ ?_
    rw_mod_cast [mset_mset]
    refine ⟨_, .refl _, ?_⟩
    exact q zs hz hI
theorem fall_ok {s : Clk} {k p : Nat} {μ : Mu} {Q : DK} (hk : μ k = some (clkC s)) (hp : p < s.st.length) (hf : s.fa = none) (hl : s.li = none) (q : Q .non (mset μ k (clkC ⟨s.st, s.err, s.gain, some p, none⟩))) : dsp_Clocks_fall [.cell k, .int (p : Int)] μ Q := by
  refine ⟨rfl, ?_⟩
  refine stp fun N1 h1 => ?_
  rw_mod_cast [hk, clkC]
  refine chkp_ok hk (by omega) (by omega) (h1 _ _ (stp fun N2 h2 => ?_))
  rw_mod_cast [hk, clkC, hf, hl, optN]
  refine h2 _ _ ?_
  rw_mod_cast [hk, clkC]
  refine ⟨_, .refl _, ?_⟩
  rw [hl]; exact q
def toldI (s : Clk) (i : Nat) (v : Int) : Option Int := if s.fa = some i \/ s.li = some i then none else some v
def told (s : Clk) : List (Option Int) := s.st.mapIdx (toldI s)
theorem dIn_opt {i : Nat} {a b : Option Nat} {μ : Mu} {Q : DK} : dInN false (.int (i : Int)) (.tup [optN a, optN b]) μ Q = Q (.bl (decide (a = some i \/ b = some i))) μ := by
  have e : ∀ c : Nat, ((c : Int) == (i : Int)) = decide (c = i) := fun c => by
    by_cases h : c = i
    . subst h; simp
    . rw [decide_eq_false h, beq_eq_false_iff_ne]; omega
  cases a <;> cases b <;> simp [dInN, lookQ, flatD, flatDs, optN, inV, eqV, e]
theorem told_ok {s : Clk} {k : Nat} {μ : Mu} {Q : DK} (hk : μ k = some (clkC s)) (hn : s.st.length <= 7) (q : Q (.lst ((told s).map wordD)) μ) : dsp_Clocks_told [.cell k] μ Q := by
  have hs : (100 : Nat) <= sizeLine := by decide
  refine ⟨rfl, ?_⟩
  rw_mod_cast [hk, clkC]
  refine ⟨by decide, ?_⟩
  refine dCLoopN_by (fun i ys μ2 => μ2 = μ /\ ys = ((told s).take i).map wordD) ⟨rfl, rfl⟩ ?_ ?_
  . rintro i d ys μ2 hd ⟨rfl, rfl⟩
    obtain ⟨e, he, rfl⟩ := enumD_get hd
    obtain ⟨v, hv, rfl⟩ := mem_int he
    have hi := (List.getElem?_eq_some_iff.mp hv).1
    have ht : (told s)[i]? = some (toldI s i v) := by unfold told; rw [List.getElem?_mapIdx, hv]; rfl
    refine ⟨by rw [List.length_map, List.length_take]; omega, fun N hN => ?_⟩
    rw_mod_cast [hk, clkC]
    refine ⟨by decide, ?_⟩
    rw_mod_cast [dIn_opt]
    have e2 : ((told s).take (i + 1)).map wordD = ((told s).take i).map wordD ++ [wordD (toldI s i v)] := by rw [List.take_add_one, ht]; simp
    split
    . rename_i c
      have c' := of_decide_eq_true c
      refine hN _ _ ⟨rfl, ?_⟩
      rw [e2, toldI, if_pos c']; rfl
    . rename_i c
      have c' : ¬ (s.fa = some i \/ s.li = some i) := fun z => c (decide_eq_true z)
      refine hN _ _ ⟨rfl, ?_⟩
      rw [e2, toldI, if_neg c']; rfl
  . rintro ys μ2 ⟨rfl, rfl⟩
    rw [enumD_length, List.length_map]
    have : (told s).length = s.st.length := by simp [told]
    rw [<- this, List.take_length]
    exact ⟨_, .refl _, q⟩
theorem init_ok {st : List Int} {e g : Int} {k : Nat} {μ : Mu} {Q : DK} (h4 : 4 <= st.length) (h7 : st.length <= 7) (he : 0 <= e /\ e <= 1000) (hg : 0 <= g /\ g <= 1000) (hw : ∀ a ∈ st, ∀ b ∈ st, a - b <= 2 * e + 2 * g) (q : Q .non (mset μ k (clkC ⟨st, e, g, none, none⟩))) : dsp_ClocksD_initD [.cell k, .lst (st.map D.int), .int e, .int g] (mset μ k (.ins "Clocks" [] [])) Q := by
  refine ⟨rfl, ?_⟩
  refine stp fun N1 h1 => ?_
  walk_at "e"
  refine ⟨rfl, ?_⟩
  refine stp fun M1 g1 => ?_
  rw_mod_cast [List.length_map, show decide ((st.length : Int) < 4) = false from decide_eq_false (by omega)]
  refine g1 _ _ ?_
  rw_mod_cast [List.length_map, show decide ((7 : Int) < st.length) = false from decide_eq_false (by omega)]
  refine ⟨_, .refl _, h1 _ _ (stp fun N2 h2 => ?_)⟩
  walk_at "e"
  refine chkn_ok he.1 he.2 (h2 _ _ (stp fun N3 h3 => ?_))
  walk_at "e"
  refine chkn_ok hg.1 hg.2 (h3 _ _ (stp fun N4 h4' => ?_))
  walk_at "e"
  refine dLoop_by (fun i ρ μ' => ∃ x, ρ = [some (.cell k), some (.lst (st.map D.int)), some (.int e), some (.int g), x] /\ μ' = mset μ k (.ins "Clocks" [] [])) ⟨_, rfl, rfl⟩ ?_ ?_
  . rintro i d ρ μ' hd ⟨x, rfl, rfl⟩ N hN
    obtain ⟨n, _, rfl⟩ := mem_int hd
    walk_at "e"
    exact chkw_ok (hN _ _ ⟨_, rfl, rfl⟩)
  rintro ρ μ' ⟨x, rfl, rfl⟩
  refine h4' _ _ (stp fun N5 h5 => ?_)
  walk_at "e"
  have hne : st ≠ [] := fun z => by rw [z] at h4; simp at h4
  refine ⟨hne, fun M hM hb => ⟨hne, fun m hm hb' => slack_ok ⟨by omega, by omega⟩ ⟨by omega, by omega⟩ ?_⟩⟩
  have := hw M hM m hm
  rw_mod_cast [show decide (2 * e + 2 * g < M - m) = false from decide_eq_false (by omega)]
  refine h5 _ _ (stp fun N6 h6 => ?_)
  walk_at "e"
  refine h6 _ _ (stp fun N7 h7' => ?_)
  walk_at "e"
  refine h7' _ _ (stp fun N8 h8 => ?_)
  walk_at "e"
  refine h8 _ _ (stp fun N9 h9 => ?_)
  walk_at "e"
  refine h9 _ _ ?_
  rw_mod_cast [mset_mset]
  exact ⟨_, .refl _, q⟩
set_option synthInstance.maxHeartbeats 4000000
set_option synthInstance.maxSize 100000
set_option maxHeartbeats 4000000
/-! ### the middles of two good clocks -/
theorem nums_n (r : List (Option Int)) : nums (none :: r) = nums r := rfl
theorem nums_s (x : Int) (r : List (Option Int)) : nums (some x :: r) = x :: nums r := rfl
theorem cnt_one {P : Int -> Bool} : ∀ {ws : List (Option Int)} {r : Nat} {a : Int}, ws[r]? = some (some a) -> P a = true -> 1 <= (nums ws).countP P
  | [], r, a, e, _ => by simp at e
  | w :: ws, 0, a, e, h => by
    have e' : w = some a := by simpa using e
    subst e'
    rw [nums_s, List.countP_cons_of_pos h]; omega
  | none :: ws, r + 1, a, e, h => by rw [nums_n]; exact cnt_one (by simpa using e) h
  | some x :: ws, r + 1, a, e, h => by
    have := cnt_one (ws := ws) (r := r) (by simpa using e) h
    rw [nums_s, List.countP_cons]; omega
theorem cnt_two {P : Int -> Bool} : ∀ {ws : List (Option Int)} {r q : Nat} {a b : Int}, r < q -> ws[r]? = some (some a) -> ws[q]? = some (some b) -> P a = true -> P b = true -> 2 <= (nums ws).countP P
  | [], r, q, a, b, _, e, _, _, _ => by simp at e
  | w :: ws, 0, q + 1, a, b, _, e, e2, h, h2 => by
    have e' : w = some a := by simpa using e
    subst e'
    have := cnt_one (ws := ws) (r := q) (by simpa using e2) h2
    rw [nums_s, List.countP_cons_of_pos h]; omega
  | none :: ws, r + 1, q + 1, a, b, l, e, e2, h, h2 => by rw [nums_n]; exact cnt_two (r := r) (q := q) (by omega) (by simpa using e) (by simpa using e2) h h2
  | some x :: ws, r + 1, q + 1, a, b, l, e, e2, h, h2 => by
    have := cnt_two (ws := ws) (r := r) (q := q) (by omega) (by simpa using e) (by simpa using e2) h h2
    rw [nums_s, List.countP_cons]; omega
/-- what a clock hears when the one at i may tell anything -/
structure RowOk (st : List Int) (e : Int) (i : Option Nat) (ws : List (Option Int)) : Prop where
  len : ws.length = st.length
  good : ∀ r z, st[r]? = some z -> i ≠ some r -> ∃ a, ws[r]? = some (some a) /\ z <= a /\ a <= z + e
theorem RowOk.at {st : List Int} {e : Int} {i : Option Nat} {ws : List (Option Int)} (h : RowOk st e i ws) {r : Nat} {a : Int} (ea : ws[r]? = some (some a)) (n : i ≠ some r) : ∃ z, st[r]? = some z /\ z <= a /\ a <= z + e := by
  have hr := (List.getElem?_eq_some_iff.mp ea).1
  rw [h.len] at hr
  obtain ⟨a', e', l1, l2⟩ := h.good r _ (List.getElem?_eq_getElem hr) n
  rw [ea] at e'; cases e'
  exact ⟨_, List.getElem?_eq_getElem hr, l1, l2⟩
/-- three places that are not i -/
theorem three (i : Option Nat) : ∃ p q r : Nat, p < q /\ q < r /\ r < 4 /\ i ≠ some p /\ i ≠ some q /\ i ≠ some r := by
  by_cases h0 : i = some 0
  . exact ⟨1, 2, 3, by omega, by omega, by omega, by simp [h0], by simp [h0], by simp [h0]⟩
  . by_cases h1 : i = some 1
    . exact ⟨0, 2, 3, by omega, by omega, by omega, h0, by simp [h1], by simp [h1]⟩
    . by_cases h2 : i = some 2
      . exact ⟨0, 1, 3, by omega, by omega, by omega, h0, h1, by simp [h2]⟩
      . exact ⟨0, 1, 2, by omega, by omega, by omega, h0, h1, h2⟩
theorem RowOk.nums3 {st : List Int} {e : Int} {i : Option Nat} {ws : List (Option Int)} (h : RowOk st e i ws) (hn : 4 <= st.length) : 3 <= (nums ws).length := by
  obtain ⟨p, q, r, pq, qr, r4, ip, iq, ir⟩ := three i
  obtain ⟨a, ea, _⟩ := h.good p _ (List.getElem?_eq_getElem (show p < st.length by omega)) ip
  obtain ⟨b, eb, _⟩ := h.good q _ (List.getElem?_eq_getElem (show q < st.length by omega)) iq
  obtain ⟨c, ec, _⟩ := h.good r _ (List.getElem?_eq_getElem (show r < st.length by omega)) ir
  have key : ∀ (ws : List (Option Int)) (p q r : Nat) (a b c : Int), p < q -> q < r -> ws[p]? = some (some a) -> ws[q]? = some (some b) -> ws[r]? = some (some c) -> 3 <= (nums ws).length := by
    intro ws
    induction ws with
    | nil => intro p q r a b c _ _ e; simp at e
    | cons w t ih =>
      intro p q r a b c pq qr e1 e2 e3
      cases p with
      | zero =>
        have e' : w = some a := by simpa using e1
        subst e'
        obtain ⟨q, rfl⟩ : ∃ k, q = k + 1 := ⟨q - 1, by omega⟩
        obtain ⟨r, rfl⟩ : ∃ k, r = k + 1 := ⟨r - 1, by omega⟩
        have := cnt_two (P := fun _ => true) (ws := t) (r := q) (q := r) (by omega) (by simpa using e2) (by simpa using e3) rfl rfl
        have l := List.countP_le_length (p := fun _ => true) (l := nums t)
        rw [nums_s, List.length_cons]; omega
      | succ p =>
        obtain ⟨q, rfl⟩ : ∃ k, q = k + 1 := ⟨q - 1, by omega⟩
        obtain ⟨r, rfl⟩ : ∃ k, r = k + 1 := ⟨r - 1, by omega⟩
        have := ih p q r a b c (by omega) (by omega) (by simpa using e1) (by simpa using e2) (by simpa using e3)
        cases w with
        | none => rw [nums_n]; exact this
        | some x => rw [nums_s, List.length_cons]; omega
  exact key ws p q r a b c pq qr ea eb ec
set_option synthInstance.maxHeartbeats 4000000
set_option synthInstance.maxSize 100000
set_option maxHeartbeats 4000000
def tv (fa li : Option Nat) (p : Nat) : Int := if fa = some p then 1 else if li = some p then 2 else 0
def tsL (n : Nat) (fa li : Option Nat) : List Int := (List.range n).map (tv fa li)
theorem ts_len {n : Nat} {fa li : Option Nat} : (tsL n fa li).length = n := by simp [tsL]
theorem ts_get {n p : Nat} {fa li : Option Nat} (h : p < n) : (tsL n fa li)[p]? = some (tv fa li p) := by
  unfold tsL; rw [List.getElem?_map, List.getElem?_range h]; rfl
theorem ts_set {n p : Nat} {fa li fa' li' : Option Nat} (h : p < n) (hv : ∀ q, tv fa' li' q = if q = p then tv fa' li' p else tv fa li q) : (tsL n fa li).set p (tv fa' li' p) = tsL n fa' li' := by
  refine List.ext_getElem? fun q => ?_
  rw [List.getElem?_set, ts_len]
  by_cases c : p = q
  . subst c; rw [if_pos rfl, if_pos h, ts_get h]
  . rw [if_neg c]
    by_cases d : q < n
    . rw [ts_get d, ts_get d, hv q, if_neg (Ne.symm c)]
    . rw [List.getElem?_eq_none (by rw [ts_len]; omega), List.getElem?_eq_none (by rw [ts_len]; omega)]
def bd (fa li : Option Nat) : Option Nat := match fa with
  | some p => some p
  | none => li
theorem tv_0 {fa li : Option Nat} {p : Nat} : decide (tv fa li p = 0) = decide (bd fa li ≠ some p) \/ (∃ q, fa = some q /\ li = some p /\ q ≠ p) := by
  unfold tv bd
  cases fa with
  | none =>
    left
    rw [if_neg (by simp)]
    by_cases c : li = some p
    . simp [c]
    . simp [c]
  | some q =>
    by_cases c : q = p
    . subst c; left; simp
    . rw [if_neg (by simpa using c)]
      by_cases d : li = some p
      . right; exact ⟨q, rfl, d, c⟩
      . left; simp [d, c]
theorem in_ints_c {x : Int} {xs : List Int} {μ : Mu} {Q : DK} {neg : Bool} {k : Nat} (h : μ k = some (.lst (xs.map D.int))) : dInN neg (.int x) (.cell k) μ Q = Q (.bl (neg ^^ decide (x ∈ xs))) μ := by
  have h2 : flatD (.int x) = some (.int x) := rfl
  unfold dInN
  simp only [lookQ_cell h, h2, flatDs_ints, inV_ints]
  cases neg <;> simp
structure ModeOk (n : Nat) (fa li : Option Nat) : Prop where
  lt : ∀ p, bd fa li = some p -> p < n
  ex : fa = none \/ li = none
theorem ModeOk.fa {n p : Nat} {fa li : Option Nat} (h : ModeOk n fa li) (e : fa = some p) : p < n := h.lt p (by rw [e]; rfl)
theorem tv_good {n p : Nat} {fa li : Option Nat} (h : ModeOk n fa li) : decide (tv fa li p = 0) = decide (bd fa li ≠ some p) := by
  rcases tv_0 (fa := fa) (li := li) (p := p) with e | ⟨q, e1, e2, _⟩
  . exact e
  . rcases h.ex with z | z
    . rw [z] at e1; cases e1
    . rw [z] at e2; cases e2
theorem tv_1 {fa li : Option Nat} {p : Nat} : decide (tv fa li p = 1) = decide (fa = some p) := by
  unfold tv
  by_cases c : fa = some p
  . simp [c]
  . rw [if_neg c]
    by_cases d : li = some p
    . simp [c, d]
    . simp [c, d]
theorem one_in {n : Nat} {fa li : Option Nat} (h : ModeOk n fa li) : decide ((1 : Int) ∈ tsL n fa li) = fa.isSome := by
  cases fa with
  | none =>
    refine decide_eq_false fun z => ?_
    obtain ⟨p, _, e⟩ := List.mem_map.mp z
    have : decide (tv none li p = 1) = true := decide_eq_true e
    rw [tv_1] at this
    simp at this
  | some p =>
    refine decide_eq_true (List.mem_map.mpr ⟨p, List.mem_range.mpr (h.fa rfl), ?_⟩)
    simp [tv]
set_option synthInstance.maxHeartbeats 4000000
set_option synthInstance.maxSize 100000
set_option maxHeartbeats 4000000
/-! ### the kind of an exception -/
theorem kif {c K : Str} {k : Nat} {ls : List Str} {u : DS} {D' : DEnds} {μ : Mu} (hc : c ∈ excEs) (hK : K ∈ excKs) (hl : ls.length < 100) (h : u D' [some (.exc c), some (.cell k)] (mset μ k (.lst ((ls ++ if (c == K) = true then [K] else []).map D.str)))) :
    dSeq (dIfS (dTest (dCB (dIsE excEs excKs) (dCons (dVar 0) (dCons (dC (.cls K)) dNil)))) (dDrop (dBM "list" dAppend (dVar 1) (dCons (dC (.str K)) dNil))) dNext) u D' [some (.exc c), some (.cell k)] (mset μ k (.lst (ls.map D.str))) := by
  have hs : (100 : Nat) <= sizeLine := by decide
  walk_at "e"
  refine ⟨hc, hK, ?_⟩
  cases e : (c == K) with
  | false =>
    rw [e] at h
    walk_at "e"
    simpa using h
  | true =>
    rw [e] at h
    walk_at "e"
    refine ⟨by rw [List.length_map]; omega, ?_⟩
    rw [mset_mset]
    simpa using h
def kadd (c : Str) (ls : List Str) (K : Str) : List Str := ls ++ if (c == K) = true then [K] else []
theorem kadd_len {c : Str} {ls : List Str} {K : Str} : (kadd c ls K).length <= ls.length + 1 := by
  unfold kadd; rw [List.length_append]; split <;> simp
theorem kif2 {c K : Str} {k n : Nat} {ls : List Str} {u : DS} {D' : DEnds} {μ : Mu} (hl : ls.length <= n) (hc : c ∈ excEs) (hK : K ∈ excKs) (hn : n < 100) (h : (kadd c ls K).length <= n + 1 -> u D' [some (.exc c), some (.cell k)] (mset μ k (.lst ((kadd c ls K).map D.str)))) :
    dSeq (dIfS (dTest (dCB (dIsE excEs excKs) (dCons (dVar 0) (dCons (dC (.cls K)) dNil)))) (dDrop (dBM "list" dAppend (dVar 1) (dCons (dC (.str K)) dNil))) dNext) u D' [some (.exc c), some (.cell k)] (mset μ k (.lst (ls.map D.str))) :=
  kif hc hK (by omega) (h (Nat.le_trans kadd_len (by omega)))
def kall (c : Str) (Ks : List Str) : List Str := Ks.foldl (kadd c) []
theorem kone_ok {c : Str} {μ : Mu} {Q : DK} (hc : c ∈ excEs) (q : Q (.lst ((kall c ["BadName", "BadNumber", "BadWay", "BadEnds", "BadLine", "Taken", "NoName", "InUse", "Full"]).map D.str)) μ) : dsp_law_kinds_one [.exc c] μ Q := by
  refine ⟨rfl, ?_⟩
  refine stp fun N1 h1 => ?_
  walk_at "e"
  refine ⟨by decide, fun k hk => h1 _ _ ?_⟩
  refine kif2 (ls := []) (n := 0) (Nat.le_refl _) hc (by decide) (by decide) fun l => ?_
  refine kif2 l hc (by decide) (by decide) fun l => ?_
  refine kif2 l hc (by decide) (by decide) fun l => ?_
  refine kif2 l hc (by decide) (by decide) fun l => ?_
  refine kif2 l hc (by decide) (by decide) fun l => ?_
  refine kif2 l hc (by decide) (by decide) fun l => ?_
  refine kif2 l hc (by decide) (by decide) fun l => ?_
  refine kif2 l hc (by decide) (by decide) fun l => ?_
  refine kif2 l hc (by decide) (by decide) fun l => ?_
  walk_at "e"
  rw [mdel_mset hk]
  exact ⟨_, .refl _, q⟩
theorem ktwo_ok {c : Str} {μ : Mu} {Q : DK} (hc : c ∈ excEs) (q : Q (.lst ((kall c ["Tight", "Late", "Heavy", "NoPlan", "NoRoom", "NoStep", "TooFew", "BadPage"]).map D.str)) μ) : dsp_law_kinds_two [.exc c] μ Q := by
  refine ⟨rfl, ?_⟩
  refine stp fun N1 h1 => ?_
  walk_at "e"
  refine ⟨by decide, fun k hk => h1 _ _ ?_⟩
  refine kif2 (ls := []) (n := 0) (Nat.le_refl _) hc (by decide) (by decide) fun l => ?_
  refine kif2 l hc (by decide) (by decide) fun l => ?_
  refine kif2 l hc (by decide) (by decide) fun l => ?_
  refine kif2 l hc (by decide) (by decide) fun l => ?_
  refine kif2 l hc (by decide) (by decide) fun l => ?_
  refine kif2 l hc (by decide) (by decide) fun l => ?_
  refine kif2 l hc (by decide) (by decide) fun l => ?_
  refine kif2 l hc (by decide) (by decide) fun l => ?_
  walk_at "e"
  rw [mdel_mset hk]
  exact ⟨_, .refl _, q⟩
theorem kall_es : ∀ c ∈ excEs, kall c ["BadName", "BadNumber", "BadWay", "BadEnds", "BadLine", "Taken", "NoName", "InUse", "Full"] ++ kall c ["Tight", "Late", "Heavy", "NoPlan", "NoRoom", "NoStep", "TooFew", "BadPage"] = [c] := by decide +kernel
theorem kind_ok {c : Str} {μ : Mu} {Q : DK} (hc : c ∈ excEs) (q : Q (.str c) μ) : dsp_law_kind [.exc c] μ Q := by
  refine ⟨rfl, ?_⟩
  refine stp fun N1 h1 => ?_
  walk_at "e"
  refine kone_ok hc (ktwo_ok hc ?_)
  have e := congrArg (List.map D.str) (kall_es c hc)
  rw [List.map_append] at e
  have e2 := congrArg List.length e
  rw [List.length_append] at e2
  walk_at "e"
  refine ⟨by rw [e2]; exact (show 1 <= sizeLine by decide), ?_⟩
  rw [e]
  refine h1 _ _ ?_
  walk_at "e"
  exact ⟨hc, _, .refl _, q⟩
set_option synthInstance.maxHeartbeats 4000000
set_option synthInstance.maxSize 100000
set_option maxHeartbeats 4000000
theorem six {P : Prop} {v : Int} (h1 : 0 <= v) (h2 : v < 6) (a0 : v = 0 -> P) (a1 : v = 1 -> P) (a2 : v = 2 -> P) (a3 : v = 3 -> P) (a4 : v = 4 -> P) (a5 : v = 5 -> P) : P := by
  obtain h | h | h | h | h | h : v = 0 \/ v = 1 \/ v = 2 \/ v = 3 \/ v = 4 \/ v = 5 := by omega
  . exact a0 h
  . exact a1 h
  . exact a2 h
  . exact a3 h
  . exact a4 h
  . exact a5 h
theorem clocks_ok {k : Nat} {μ : Mu} {Q : DK} (hk : μ k = some .draw) (q : ∀ (st : List Int) (e g lo : Int), 4 <= st.length -> st.length <= 7 -> (0 <= e /\ e <= 1000) -> (0 <= g /\ g <= 1000) -> (-25 <= lo /\ lo <= 24) -> (∀ z ∈ st, lo <= z /\ z <= lo + (2 * e + 2 * g)) -> Q (.tup [.lst (st.map D.int), .int e, .int g]) μ) : dsp_law_clocks [.cell k] μ Q := by
  have hs : (100 : Nat) <= sizeLine := by decide
  refine ⟨rfl, cut1 (fun ρ μ' => ∃ e, ρ = [some (.cell k), some (.int e), none, none, none] /\ μ' = μ /\ 0 <= e /\ e <= 1000) (fun N hN => ?_) ?_⟩
  . rw_mod_cast [hk]
    refine ⟨by decide, by decide, by decide, fun v h1 h2 => six h1 h2 ?_ ?_ ?_ ?_ ?_ ?_⟩ <;> (rintro rfl; exact hN _ _ ⟨_, rfl, rfl, by decide, by decide⟩)
  rintro ρ μ' ⟨e, rfl, rfl, he⟩
  refine cut1 (fun ρ μ2 => ∃ g, ρ = [some (.cell k), some (.int e), some (.int g), none, none] /\ μ2 = μ' /\ 0 <= g /\ g <= 1000) (fun N hN => ?_) ?_
  . rw_mod_cast [hk]
    refine ⟨by decide, by decide, by decide, fun v h1 h2 => six h1 h2 ?_ ?_ ?_ ?_ ?_ ?_⟩ <;> (rintro rfl; exact hN _ _ ⟨_, rfl, rfl, by decide, by decide⟩)
  rintro ρ μ ⟨g, rfl, rfl, hg⟩
  refine stp fun N1 h1 => ?_
  rw_mod_cast [hk]
  refine ⟨by decide, by decide, fun b b0 b1 => h1 _ _ (stp fun N2 h2 => ?_)⟩
  rw_mod_cast [hk]
  refine ⟨by decide, by decide, by decide, fun n n0 n1 => ⟨by omega, by omega, ?_⟩⟩
  refine dCLoopN_by (fun i ys μ2 => μ2 = μ /\ ∃ zs : List Int, ys = zs.map D.int /\ zs.length = i /\ ∀ z ∈ zs, b - 25 <= z /\ z <= b - 25 + (2 * e + 2 * g)) ⟨rfl, [], rfl, rfl, by simp⟩ ?_ ?_
  . rintro i d ys μ2 hd ⟨rfl, zs, rfl, hz, hI⟩
    obtain ⟨hi, rfl⟩ := rangeL_get? hd
    refine ⟨by rw [List.length_map]; omega, fun N hN => ?_⟩
    rw_mod_cast [hk]
    refine ⟨.inr ⟨by omega, by omega⟩, .inr ⟨by omega, by omega⟩, by omega, by omega, fun v v0 v1 => hN _ _ ⟨rfl, zs ++ [b - 25 + v], by rw [List.map_append]; rfl, by rw [List.length_append, hz]; rfl, fun z hz' => ?_⟩⟩
    rcases List.mem_append.mp hz' with hz' | hz'
    . exact hI z hz'
    . obtain rfl : z = b - 25 + v := by simpa using hz'
      omega
  . rintro ys μ2 ⟨rfl, zs, rfl, hz, hI⟩
    rw [rangeD_length] at hz
    refine h2 _ _ ?_
    walk_at "e"
    exact ⟨by decide, _, .refl _, q zs e g (b - 25) (by omega) (by omega) he hg (by omega) hI⟩

/-- what one word is like -/
def WordIs (st : List Int) (e : Int) (b : Option Nat) (hears : Bool) (r : Nat) (w : Option Int) : Prop :=
  (b ≠ some r -> ∃ a z, w = some a /\ st[r]? = some z /\ z <= a /\ a <= z + e) /\ (b = some r -> hears = false -> w = none) /\ (b = some r -> ∀ a, w = some a -> a.natAbs < 10 ^ 13)
theorem snoc_all {α : Type} {P : Nat -> α -> Prop} {l : List α} {x : α} (h : ∀ r w, l[r]? = some w -> P r w) (hx : P l.length x) : ∀ r w, (l ++ [x])[r]? = some w -> P r w := by
  intro r w e
  by_cases c : r < l.length
  . rw [List.getElem?_append_left c] at e; exact h r w e
  . rw [List.getElem?_append_right (by omega)] at e
    by_cases d : r - l.length = 0
    . rw [d] at e
      have e' : x = w := by simpa using e
      subst e'
      rw [show r = l.length by omega]; exact hx
    . rw [List.getElem?_eq_none (by simp; omega)] at e; cases e
def goodL (n : Nat) (b : Option Nat) : List Bool := (List.range n).map fun p => decide (b ≠ some p)
theorem good_get {n p : Nat} {b : Option Nat} (h : p < n) : (goodL n b)[p]? = some (decide (b ≠ some p)) := by
  unfold goodL; rw [List.getElem?_map, List.getElem?_range h]; rfl
theorem heard_ok {k : Nat} {st : List Int} {b : Option Nat} {e : Int} {hears : Bool} {μ : Mu} {Q : DK} (hk : μ k = some .draw) (n7 : st.length <= 7) (he : 0 <= e /\ e <= 1000)
    (q : ∀ ws : List (Option Int), ws.length = st.length -> (∀ r w, ws[r]? = some w -> WordIs st e b hears r w) -> Q (rowD ws) μ) : dsp_law_heard [.cell k, .lst (st.map D.int), .lst ((goodL st.length b).map D.bl), .int e, .bl hears] μ Q := by
  have hz : (100 : Nat) <= sizeLine := by decide
  refine ⟨rfl, ?_⟩
  refine stp fun N1 h1 => ?_
  walk_at "e"
  refine ⟨by decide, fun c hc => ?_⟩
  have hkc : ∀ x, mset μ c x k = some .draw := fun x => by rw [mset_ne (fun z => by subst z; rw [hk] at hc; cases hc)]; exact hk
  refine h1 _ _ (stp fun N2 h2 => ?_)
  rw_mod_cast [List.length_map]
  refine ⟨by omega, by omega, ?_⟩
  refine dLoop_by (fun i ρ μ' => ∃ x6 ws, ρ = [some (.cell k), some (.lst (st.map D.int)), some (.lst ((goodL st.length b).map D.bl)), some (.int e), some (.bl hears), some (.cell c), x6] /\ μ' = mset μ c (.lst (ws.map wordD)) /\ ws.length = i /\ ∀ r w, ws[r]? = some w -> WordIs st e b hears r w) ⟨_, [], rfl, rfl, rfl, fun r w e => by simp at e⟩ ?_ ?_
  . rintro i d ρ μ' hd ⟨x6, ws, rfl, rfl, hl, hI⟩ N hN
    obtain ⟨hi, rfl⟩ := rangeL_get? hd
    rw [Int.toNat_natCast] at hi
    have e0 : (0 : Int) + (i : Int) = (i : Int) := by omega
    have ez : st[i]? = some st[i] := List.getElem?_eq_getElem hi
    have fin : ∀ w, WordIs st e b hears i w -> N [some (.cell k), some (.lst (st.map D.int)), some (.lst ((goodL st.length b).map D.bl)), some (.int e), some (.bl hears), some (.cell c), some (.int (i : Int))] (mset μ c (.lst (ws.map wordD ++ [wordD w]))) := fun w hw =>
      hN _ _ ⟨_, ws ++ [w], rfl, by rw [List.map_append]; rfl, by rw [List.length_append, hl]; rfl, snoc_all hI (by rw [hl]; exact hw)⟩
    have hlen : (ws.map wordD).length < sizeLine := by rw [List.length_map]; omega
    by_cases c1 : b = some i
    . rw_mod_cast [e0, atI_map, atI_nat (good_get (b := b) hi), Option.map_some, decide_eq_false (show ¬ (b ≠ some i) from fun z => z c1)]
      cases hears with
      | true =>
        rw_mod_cast [hkc, mset_mset]
        have bad : ∀ w, (∀ a, w = some a -> a.natAbs < 10 ^ 13) -> WordIs st e b true i w := fun w hw => ⟨fun z => (z c1).elim, fun _ z => (Bool.noConfusion z), fun _ => hw⟩
        refine ⟨⟨by decide, by decide, by decide⟩, ⟨by decide, by decide, by decide⟩, by decide, by decide, fun v v0 v1 => ⟨by decide, by decide, by decide, fun u u0 u1 => ?_⟩⟩
        obtain rfl | rfl | rfl | rfl | rfl : u = 0 \/ u = 1 \/ u = 2 \/ u = 3 \/ u = 4 := by omega
        . exact ⟨hlen, fin none (bad _ fun a z => by cases z)⟩
        . exact ⟨hlen, fin (some 0) (bad _ fun a z => by cases z; decide)⟩
        . exact ⟨hlen, fin (some (10 ^ 12)) (bad _ fun a z => by cases z; decide)⟩
        . exact ⟨hlen, fin (some (-(10 ^ 12))) (bad _ fun a z => by cases z; decide)⟩
        . exact ⟨hlen, fin (some (v - 100)) (bad _ fun a z => by cases z; omega)⟩
      | false =>
        rw_mod_cast [mset_mset]
        exact ⟨hlen, fin none ⟨fun z => (z c1).elim, fun _ _ => rfl, fun _ a z => by cases z⟩⟩
    . rw_mod_cast [e0, atI_map, atI_nat (good_get (b := b) hi), Option.map_some, decide_eq_true (show b ≠ some i from c1), hkc, atI_map, Option.map_some, atI_nat ez, mset_mset]
      refine ⟨by omega, by omega, fun v v0 v1 => ⟨hlen, fin (some (st[i] + v)) ⟨fun _ => ⟨_, _, rfl, ez, by omega, by omega⟩, fun z => (c1 z).elim, fun z => (c1 z).elim⟩⟩⟩
  . rintro ρ μ' ⟨x6, ws, rfl, rfl, hl, hI⟩
    refine h2 _ _ ?_
    rw_mod_cast [mdel_mset hc]
    rw [rangeD_length, Int.toNat_natCast] at hl
    exact ⟨_, .refl _, q ws hl hI⟩
set_option synthInstance.maxHeartbeats 4000000
set_option synthInstance.maxSize 100000
set_option maxHeartbeats 4000000
theorem dNe_ni {i : Int} {μ : Mu} {Q : DK} : dNe .non (.int i) μ Q = Q (.bl true) μ := by
  have e1 : EqOk (.int i) := ⟨by simp [PyData.canLay0], by simp [PyData.depth]⟩
  have e2 : EqOk .none := ⟨by simp [PyData.canLay0], by simp [PyData.depth]⟩
  have e3 : PyData.eqv .none (.int i) = false := by simp [PyData.eqv]
  unfold dNe dEqN
  simp only [toPyM, toPy, eq_true e1, eq_true e2, true_and, e3, Bool.xor_false]
theorem dNe_optN {p : Nat} {o : Option Nat} {μ : Mu} {Q : DK} : dNe (optN o) (.int (p : Int)) μ Q = Q (.bl (!decide (o = some p))) μ := by
  cases o with
  | none => rw [optN, dNe_ni, decide_eq_false (by simp)]; rfl
  | some q =>
    rw [optN, dNe_int]
    by_cases h : q = p
    . subst h; simp
    . rw [decide_eq_false (by omega), decide_eq_false (by simpa using h)]
/-! ### what is refused -/
theorem isn_bl {b : Bool} {μ : Mu} {Q : DK} (q : Q (.bl false) μ) : dsp_is_number [.bl b] μ Q := by
  refine ⟨rfl, ?_⟩
  walk_at "e"
  exact ⟨_, .refl _, q⟩
theorem chkwX_ok {i : Int} {μ : Mu} {Q : DK} {X0 : DX} (q : Q .non μ) : dsp_check_wholeX [.int i] μ Q X0 := by
  refine ⟨rfl, ?_⟩
  walk_at "e"
  refine isn_ok ?_
  walk_at "e"
  exact ⟨_, .refl _, q⟩
theorem chkwX_bl {b : Bool} {μ : Mu} {Q : DK} {X0 : DX} (x : X0 "BadNumber" μ) : dsp_check_wholeX [.bl b] μ Q X0 := by
  refine ⟨rfl, ?_⟩
  walk_at "e"
  refine isn_bl ?_
  walk_at "e"
  exact ⟨by decide, _, .refl _, x⟩
theorem chknX_bl {b : Bool} {lo hi : D} {μ : Mu} {Q : DK} {X0 : DX} (x : X0 "BadNumber" μ) : dsp_check_numberX [.bl b, lo, hi] μ Q X0 := by
  refine ⟨rfl, stp fun N1 h1 => ?_⟩
  walk_at "e"
  exact chkwX_bl ⟨_, .refl _, x⟩
theorem chknX_ok {i lo hi : Int} {μ : Mu} {Q : DK} {X0 : DX} (q : lo <= i -> i <= hi -> Q .non μ) (x : (i < lo \/ hi < i) -> X0 "BadNumber" μ) : dsp_check_numberX [.int i, .int lo, .int hi] μ Q X0 := by
  refine ⟨rfl, stp fun N1 h1 => ?_⟩
  walk_at "e"
  refine chkwX_ok (h1 _ _ ?_)
  by_cases c1 : lo <= i
  . by_cases c2 : i <= hi
    . rw_mod_cast [decide_eq_true c1, decide_eq_true c2]
      exact ⟨_, .refl _, q c1 c2⟩
    . rw_mod_cast [decide_eq_true c1, decide_eq_false c2]
      exact ⟨by decide, _, .refl _, x (.inr (by omega))⟩
  . rw_mod_cast [decide_eq_false c1]
    exact ⟨by decide, _, .refl _, x (.inl (by omega))⟩
set_option synthInstance.maxHeartbeats 4000000
set_option synthInstance.maxSize 100000
set_option maxHeartbeats 4000000
def HOk (s : Clk) (ws : List (Option Int)) : Prop := ws.length = s.st.length /\ ∀ r w, ws[r]? = some w -> WordIs s.st s.err (bd s.fa s.li) s.fa.isSome r w
theorem HOk.row {s : Clk} {ws : List (Option Int)} (h : HOk s ws) : RowOk s.st s.err (bd s.fa s.li) ws := by
  refine ⟨h.1, fun r z ez n => ?_⟩
  have hr : r < ws.length := by rw [h.1]; exact (List.getElem?_eq_some_iff.mp ez).1
  obtain ⟨a, z', e1, e2, l1, l2⟩ := (h.2 r _ (List.getElem?_eq_getElem hr)).1 n
  rw [ez] at e2; cases e2
  exact ⟨a, by rw [List.getElem?_eq_getElem hr, e1], l1, l2⟩
theorem HOk.word {s : Clk} {n : Nat} {ws : List (Option Int)} (h : HOk s ws) (md : ModeOk n s.fa s.li) : ∀ j w, ws[j]? = some w -> WordOk s j w := by
  intro j w e
  obtain ⟨h1, h2, h3⟩ := h.2 j w e
  unfold WordOk
  by_cases c : s.li = some j
  . rw [if_pos c]
    have hf : s.fa = none := by rcases md.ex with z | z; exact z; rw [z] at c; cases c
    exact h2 (by rw [hf]; exact c) (by rw [hf]; rfl)
  . rw [if_neg c]
    by_cases d : s.fa = some j
    . rw [if_pos d]; trivial
    . rw [if_neg d]
      obtain ⟨a, z, e1, e2, l1, l2⟩ := h1 (by cases hf : s.fa with | none => exact c | some p => rw [hf] at d; exact d)
      exact ⟨a, z, e1, e2, l1, l2⟩
theorem dNe_lst {ds : List D} {n : Nat} {μ : Mu} {Q : DK} (h : Pl n (.lst ds)) (hn : n <= 60) (q : Q (.bl false) μ) : dNe (.lst ds) (.lst ds) μ Q := by
  obtain ⟨p, e, c, b⟩ := Pl.py n _ h
  have ok : EqOk p := ⟨c, by omega⟩
  unfold dNe dEqN
  simp only [toPyM_of e]
  exact ⟨ok, ok, by rw [eqv_self ok]; exact q⟩
theorem bd_or {n p : Nat} {fa li : Option Nat} (md : ModeOk n fa li) : (fa = some p \/ li = some p) ↔ bd fa li = some p := by
  rcases md.ex with z | z <;> subst z
  . simp [bd]
  . cases fa <;> simp [bd]
theorem told_len (s : Clk) : (told s).length = s.st.length := by simp [told]
theorem told_get {s : Clk} {n p : Nat} {a : Int} (md : ModeOk n s.fa s.li) (e : s.st[p]? = some a) : (told s)[p]? = some (if bd s.fa s.li = some p then none else some a) := by
  unfold told
  rw [List.getElem?_mapIdx, e, Option.map_some]
  unfold toldI
  by_cases c : bd s.fa s.li = some p
  . rw [if_pos ((bd_or md).mpr c), if_pos c]
  . rw [if_neg (fun z => c ((bd_or md).mp z)), if_neg c]
theorem getD_at {ls : List Int} {p : Nat} {a : Int} (h : ls[p]? = some a) : ls.getD p 0 = a := by rw [List.getD_eq_getElem?_getD, h]; rfl
set_option synthInstance.maxHeartbeats 4000000
set_option synthInstance.maxSize 100000
set_option maxHeartbeats 4000000
/-! ### what a turn refuses -/
theorem isn_non {μ : Mu} {Q : DK} (q : Q (.bl false) μ) : dsp_is_number [.non] μ Q := by
  refine ⟨rfl, ?_⟩
  walk_at "e"
  exact ⟨_, .refl _, q⟩
theorem chkwX_non {μ : Mu} {Q : DK} {X0 : DX} (x : X0 "BadNumber" μ) : dsp_check_wholeX [.non] μ Q X0 := by
  refine ⟨rfl, ?_⟩
  walk_at "e"
  refine isn_non ?_
  walk_at "e"
  exact ⟨by decide, _, .refl _, x⟩
/-- no number within its bounds -/
def NoNum (lo hi : Int) (d : D) : Prop := d = .non \/ d = .bl true \/ ∃ i, d = .int i /\ (i < lo \/ hi < i)
theorem chknX_bad {d : D} {lo hi : Int} {μ : Mu} {Q : DK} {X0 : DX} (h : NoNum lo hi d) (x : X0 "BadNumber" μ) : dsp_check_numberX [d, .int lo, .int hi] μ Q X0 := by
  rcases h with rfl | rfl | ⟨i, rfl, h⟩
  . refine ⟨rfl, stp fun N1 h1 => ?_⟩
    walk_at "e"
    exact chkwX_non ⟨_, .refl _, x⟩
  . exact chknX_bl x
  . exact chknX_ok (fun a b => by omega) fun _ => x
theorem chklX_ok {s : Clk} {k : Nat} {d : D} {ds : List D} {μ : Mu} {Q : DK} {X0 : DX} (hk : μ k = some (clkC s)) (hd : lookL μ d = some ds) (q : ds.length = s.st.length -> Q .non μ) (x : ds.length ≠ s.st.length -> X0 "BadNumber" μ) : dsp_Clocks_check_lengthX [.cell k, d] μ Q X0 := by
  refine ⟨rfl, ?_⟩
  have el : ∀ R, dLen [d] μ R = R (.int ds.length) μ := fun R => by
    unfold dLen
    cases d <;> simp only [lookQ, lookL, reduceCtorEq, Option.some.injEq] at hd ⊢ <;> first | (rw [hd]) | (simp only [hd]) | skip
  rw_mod_cast [hk, clkC, el, List.length_map]
  by_cases c : ds.length = s.st.length
  . rw_mod_cast [decide_eq_true (show (ds.length : Int) = s.st.length by omega)]
    exact ⟨_, .refl _, q c⟩
  . rw_mod_cast [decide_eq_false (show ¬ (ds.length : Int) = s.st.length by omega)]
    exact ⟨by decide, _, .refl _, x c⟩
/-- a word that can't be heard there -/
def WordBad (s : Clk) (p : Nat) (d : D) : Prop := if s.li = some p then isNon d = false /\ (d = .bl true \/ ∃ i, d = .int i) else s.fa ≠ some p /\ ∃ st, s.st[p]? = some st /\ NoNum st (st + s.err) d
theorem chkwdX_ok {s : Clk} {k p : Nat} {w : Option Int} {μ : Mu} {Q : DK} {X0 : DX} (hk : μ k = some (clkC s)) (h : WordOk s p w) (q : Q .non μ) : dsp_Clocks_check_wordX [.cell k, .int (p : Int), wordD w] μ Q X0 := by
  refine ⟨rfl, ?_⟩
  rw_mod_cast [hk, clkC, dEq_optN]
  unfold WordOk at h
  by_cases c1 : s.li = some p
  . rw [if_pos c1] at h; subst h
    rw_mod_cast [decide_eq_true c1, wordD]
    exact ⟨_, .refl _, q⟩
  . rw [if_neg c1] at h
    rw_mod_cast [decide_eq_false c1]
    by_cases c2 : s.fa = some p
    . rw_mod_cast [decide_eq_true c2]
      cases w with
      | none => rw_mod_cast [wordD]; exact ⟨_, .refl _, q⟩
      | some i => rw_mod_cast [wordD]; exact chkwX_ok ⟨_, .refl _, q⟩
    . rw [if_neg c2] at h
      obtain ⟨i, st, rfl, e, h1, h2⟩ := h
      rw_mod_cast [decide_eq_false c2, wordD, atI_map, atI_nat e, Option.map_some]
      exact chknX_ok (fun _ _ => ⟨_, .refl _, q⟩) fun z => by omega
theorem chkwdX_bad {s : Clk} {k p : Nat} {d : D} {μ : Mu} {Q : DK} {X0 : DX} (hk : μ k = some (clkC s)) (h : WordBad s p d) (x : X0 "BadNumber" μ) : dsp_Clocks_check_wordX [.cell k, .int (p : Int), d] μ Q X0 := by
  refine ⟨rfl, ?_⟩
  unfold WordBad at h
  by_cases c1 : s.li = some p
  . rw [if_pos c1] at h
    rcases h.2 with rfl | ⟨i, rfl⟩
    . rw_mod_cast [hk, clkC, dEq_optN, decide_eq_true c1]
      exact ⟨by decide, _, .refl _, x⟩
    . rw_mod_cast [hk, clkC, dEq_optN, decide_eq_true c1]
      exact ⟨by decide, _, .refl _, x⟩
  . rw [if_neg c1] at h
    obtain ⟨c2, st, e, hb⟩ := h
    rw_mod_cast [hk, clkC, dEq_optN, decide_eq_false c1, decide_eq_false c2, atI_map, atI_nat e, Option.map_some]
    exact chknX_bad hb ⟨_, .refl _, x⟩
/-- a row with which it can't go on: its length, a word, or the number added -/
structure RowGood (s : Clk) (ws : List (Option Int)) : Prop where
  l : ws.length = s.st.length
  w : ∀ j w, ws[j]? = some w -> WordOk s j w
  n : 3 <= (nums ws).length
def StbBad (s : Clk) (ds : List D) (g : D) : Prop := ds.length ≠ s.st.length \/ (ds.length = s.st.length /\ ∃ p d, ds[p]? = some d /\ WordBad s p d /\ ∀ j e, j < p -> ds[j]? = some e -> ∃ w, e = wordD w /\ WordOk s j w) \/ (∃ ws, ds = ws.map wordD /\ RowGood s ws /\ NoNum 0 s.gain g)
theorem lookL_cases {d : D} {ds : List D} {μ : Mu} (h : lookL μ d = some ds) : d = .lst ds \/ ∃ c, d = .cell c /\ μ c = some (.lst ds) := by
  cases d with
  | cell c =>
    refine .inr ⟨c, rfl, ?_⟩
    unfold lookL at h
    cases e : μ c with
    | none => simp [e] at h
    | some ct => cases ct <;> simp [e] at h <;> rw [h]
  | lst es => exact .inl (by simp [lookL] at h; rw [h])
  | _ => simp [lookL] at h
theorem ls_lk {d : D} {ds : List D} {μ : Mu} {R : List D -> (Mu -> Prop) -> Prop} (hd : lookL μ d = some ds) (h : ∀ P : Mu -> Prop, P μ -> R ds P) : lsM μ d R := by
  rcases lookL_cases hd with rfl | ⟨c, rfl, e⟩
  . rw [e_lsl]; exact h _ trivial
  . rw [e_lsc, e, cellK_lst]; exact h _ e
theorem sq_lk {d : D} {ds : List D} {μ : Mu} {R : List D -> (Mu -> Prop) -> Prop} (hd : lookL μ d = some ds) (h : ∀ P : Mu -> Prop, P μ -> R ds P) : seqM μ d R := by
  rcases lookL_cases hd with rfl | ⟨c, rfl, e⟩
  . rw [e_seql]; exact h _ trivial
  . rw [e_seqc, e, cellK_lst]; exact h _ e
theorem midX_ok {ns : List Int} {μ : Mu} {Q : DK} {X0 : DX} (h3 : 3 <= ns.length) (hz : ns.length < 64) (q : ∀ v, Q (.int v) μ) : dsp_middleX [.lst (ns.map D.int)] μ Q X0 := by
  refine ⟨rfl, ?_⟩
  refine stp fun N1 h1 => ?_
  rw_mod_cast [List.length_map, show decide ((ns.length : Int) < 3) = false from decide_eq_false (by omega)]
  refine h1 _ _ (stp fun N2 h2 => ?_)
  walk_at "e"
  refine dLoop_by (fun i ρ μ' => ∃ x, ρ = [some (.lst (ns.map D.int)), x, none] /\ μ' = μ) ⟨_, rfl, rfl⟩ ?_ ?_
  . rintro i d ρ μ' hd ⟨x, rfl, rfl⟩ N hN
    obtain ⟨n, _, rfl⟩ := mem_int hd
    walk_at "e"
    exact chkwX_ok (hN _ _ ⟨_, rfl, rfl⟩)
  rintro ρ μ' ⟨x, rfl, rfl⟩
  refine h2 _ _ (stp fun N3 h3' => ?_)
  walk_at "e"
  refine sorted_ints_ok hz fun s hp hs => ?_
  walk_at "e"
  refine h3' _ _ ?_
  obtain ⟨a, b, e1, e2, e3, e4⟩ := mid_parts (s := s) (by rw [hp.length_eq]; exact h3)
  rw_mod_cast [e3, e4]
  exact ⟨⟨by decide, by decide⟩, _, .refl _, q _⟩
theorem words_compP {ws : List (Option Int)} {Fin : List D -> Mu -> Prop} {μ : Mu} {own : DEnv} {P : Mu -> Prop} (hP : P μ) (hl : ws.length <= 60) (q : Fin ((nums ws).map D.int) μ) : dCLoop (dgName 0) (dTest (dOp dIsNot (dVar 0) (dC .non))) (dVar 0) (none :: own) P Fin (ws.map wordD) [] μ := by
  have hs : (100 : Nat) <= sizeLine := by decide
  refine dCLoop_filter (fun d => !isNon d) id (by rw [List.length_map]; omega) (fun d hd Y Z hY hZ => ?_) ?_ hP
  . walk_at "e"
    cases h : isNon d with
    | true => exact hZ (by rw [h]; rfl)
    | false => exact hY (by rw [h]; rfl)
  . rw [filt_words]; exact q
theorem stbX_fa {s : Clk} {k p : Nat} {st : Int} {d : D} {g : D} {μ : Mu} {Q : DK} {X0 : DX} (hk : μ k = some (clkC s)) (hp : s.fa = some p) (e : s.st[p]? = some st) (q : Q (.int st) μ) : dsp_Clocks_stand_behindX [.cell k, .int (p : Int), d, g] μ Q X0 := by
  refine ⟨rfl, ?_⟩
  refine stp fun N1 h1 => ?_
  rw_mod_cast [hk, clkC, dEq_optN, decide_eq_true hp, atI_map, atI_nat e, Option.map_some]
  exact ⟨_, .refl _, q⟩
theorem stbX_ok {s : Clk} {k p : Nat} {d : D} {ws : List (Option Int)} {g : Int} {μ : Mu} {Q : DK} {X0 : DX} (hk : μ k = some (clkC s)) (hp : s.fa ≠ some p) (n7 : s.st.length <= 7) (hd : lookL μ d = some (ws.map wordD)) (h : RowGood s ws) (hg : 0 <= g /\ g <= s.gain) (q : ∀ v, Q (.int v) μ) : dsp_Clocks_stand_behindX [.cell k, .int (p : Int), d, .int g] μ Q X0 := by
  have hl := h.l
  refine ⟨rfl, ?_⟩
  refine stp fun N1 h1 => ?_
  rw_mod_cast [hk, clkC, dEq_optN, decide_eq_false hp]
  refine h1 _ _ (stp fun N2 h2 => ?_)
  rw_mod_cast [hk, clkC]
  refine chklX_ok hk hd (fun _ => h2 _ _ (stp fun N3 h3' => ?_)) fun z => absurd (by rw [List.length_map]; exact hl) z
  walk_at "e"
  refine ls_lk hd fun P hP => ?_
  refine dLoop_by (fun i ρ μ' => ∃ x4 x5, ρ = [some (.cell k), some (.int (p : Int)), some d, some (.int g), x4, x5] /\ μ' = μ) ⟨_, _, rfl, rfl⟩ ?_ ?_ (fun i ρ μ' ⟨_, _, _, e⟩ => e ▸ hP)
  . rintro i e ρ μ' hd' ⟨x4, x5, rfl, rfl⟩ N hN
    obtain ⟨e, he, rfl⟩ := enumD_get hd'
    rw [List.getElem?_map] at he
    obtain ⟨w, hw, rfl⟩ := Option.map_eq_some_iff.mp he
    rw_mod_cast [hk, clkC]
    exact chkwdX_ok hk (h.w i w hw) (hN _ _ ⟨_, _, rfl, rfl⟩)
  rintro ρ μ' ⟨x4, x5, rfl, rfl⟩
  refine h3' _ _ (stp fun N4 h4 => ?_)
  rw_mod_cast [hk, clkC]
  refine chknX_ok (fun _ _ => h4 _ _ ?_) fun z => by omega
  walk_at "e"
  refine ⟨by decide, sq_lk hd fun P hP => words_compP hP (by omega) ?_⟩
  have hlen : (nums ws).length <= ws.length := List.length_filterMap_le _ _
  refine midX_ok h.n (by omega) fun v => ?_
  walk_at "e"
  exact ⟨_, .refl _, q _⟩
theorem stbX_bad {s : Clk} {k p : Nat} {d g : D} {ds : List D} {μ : Mu} {Q : DK} {X0 : DX} (hk : μ k = some (clkC s)) (hp : s.fa ≠ some p) (hd : lookL μ d = some ds) (h : StbBad s ds g) (x : X0 "BadNumber" μ) : dsp_Clocks_stand_behindX [.cell k, .int (p : Int), d, g] μ Q X0 := by
  have x' : ∃ μ'', MLe μ'' μ /\ X0 "BadNumber" μ'' := ⟨_, .refl _, x⟩
  refine ⟨rfl, ?_⟩
  refine stp fun N1 h1 => ?_
  rw_mod_cast [hk, clkC, dEq_optN, decide_eq_false hp]
  refine h1 _ _ (stp fun N2 h2 => ?_)
  rw_mod_cast [hk, clkC]
  refine chklX_ok hk hd (fun hl => ?_) fun _ => x'
  rcases h with h | ⟨_, r, dr, er, hr, hb⟩ | ⟨ws, rfl, G, hn⟩
  . exact absurd hl h
  . refine h2 _ _ (stp fun N3 h3' => ?_)
    walk_at "e"
    refine ls_lk hd fun P hP => ?_
    refine dLoop_by (fun i ρ μ' => i <= r /\ ∃ x4 x5, ρ = [some (.cell k), some (.int (p : Int)), some d, some g, x4, x5] /\ μ' = μ) ⟨Nat.zero_le _, _, _, rfl, rfl⟩ ?_ ?_ (fun i ρ μ' ⟨_, _, _, _, e⟩ => e ▸ hP)
    . rintro i e ρ μ' hd' ⟨hi, x4, x5, rfl, rfl⟩ N hN
      obtain ⟨e, he, rfl⟩ := enumD_get hd'
      rw_mod_cast [hk, clkC]
      by_cases z : i = r
      . subst z
        rw [er] at he; cases he
        exact chkwdX_bad hk hr x'
      . obtain ⟨w, rfl, hw⟩ := hb i e (by omega) he
        exact chkwdX_ok hk hw (hN _ _ ⟨by omega, _, _, rfl, rfl⟩)
    . rintro ρ μ' ⟨hi, _⟩
      rw [enumD_length] at hi
      have := (List.getElem?_eq_some_iff.mp er).1
      omega
  . refine h2 _ _ (stp fun N3 h3' => ?_)
    walk_at "e"
    refine ls_lk hd fun P hP => ?_
    refine dLoop_by (fun i ρ μ' => ∃ x4 x5, ρ = [some (.cell k), some (.int (p : Int)), some d, some g, x4, x5] /\ μ' = μ) ⟨_, _, rfl, rfl⟩ ?_ ?_ (fun i ρ μ' ⟨_, _, _, e⟩ => e ▸ hP)
    . rintro i e ρ μ' hd' ⟨x4, x5, rfl, rfl⟩ N hN
      obtain ⟨e, he, rfl⟩ := enumD_get hd'
      rw [List.getElem?_map] at he
      obtain ⟨w, hw, rfl⟩ := Option.map_eq_some_iff.mp he
      rw_mod_cast [hk, clkC]
      exact chkwdX_ok hk (G.w i w hw) (hN _ _ ⟨_, _, rfl, rfl⟩)
    rintro ρ μ' ⟨x4, x5, rfl, rfl⟩
    refine h3' _ _ (stp fun N4 h4 => ?_)
    rw_mod_cast [hk, clkC]
    exact chknX_bad hn x'
/-- a turn that can't be taken -/
def TurnBad (s : Clk) (μ : Mu) (hs gs : List D) : Prop := hs.length ≠ s.st.length \/ gs.length ≠ s.st.length \/ (hs.length = s.st.length /\ gs.length = s.st.length /\ ∃ a, a < s.st.length /\ s.fa ≠ some a /\ (∃ d ds g, hs[a]? = some d /\ lookL μ d = some ds /\ gs[a]? = some g /\ StbBad s ds g) /\
  ∀ p, p < a -> s.fa ≠ some p -> ∃ d ws g, hs[p]? = some d /\ lookL μ d = some (ws.map wordD) /\ gs[p]? = some (.int g) /\ RowGood s ws /\ 0 <= g /\ g <= s.gain)
theorem turnX_bad {s : Clk} {k kh kg : Nat} {hs gs : List D} {μ : Mu} {Q : DK} {X0 : DX} (hk : μ k = some (clkC s)) (hh : μ kh = some (.lst hs)) (hg : μ kg = some (.lst gs)) (n7 : s.st.length <= 7) (h : TurnBad s μ hs gs) (x : X0 "BadNumber" μ) : dsp_Clocks_turnX [.cell k, .cell kh, .cell kg] μ Q X0 := by
  have x' : ∃ μ'', MLe μ'' μ /\ X0 "BadNumber" μ'' := ⟨_, .refl _, x⟩
  have hz : (100 : Nat) <= sizeLine := by decide
  refine ⟨rfl, stp fun N1 h1 => ?_⟩
  rw_mod_cast [hk, clkC]
  refine chklX_ok hk (lookL_cell hh) (fun l1 => h1 _ _ (stp fun N2 h2 => ?_)) fun _ => x'
  rw_mod_cast [hk, clkC]
  refine chklX_ok hk (lookL_cell hg) (fun l2 => h2 _ _ (stp fun N3 h3 => ?_)) fun _ => x'
  rcases h with z | z | ⟨_, _, a, an, af, ⟨d, ds, g, e1, e2, e3, bad⟩, good⟩
  . exact absurd l1 z
  . exact absurd l2 z
  rw_mod_cast [dCompX, hk, clkC, List.length_map]
  refine ⟨by decide, by omega, by omega, ?_⟩
  refine dCLoopN_by (fun i ys μ2 => i <= a /\ μ2 = μ /\ ys.length = i) ⟨Nat.zero_le _, rfl, rfl⟩ ?_ ?_
  . rintro i e ys μ2 hd ⟨hi, rfl, hy⟩
    obtain ⟨hin, rfl⟩ := rangeL_get? hd
    rw [Int.toNat_natCast] at hin
    refine ⟨by omega, fun N hN => ?_⟩
    have e0 : (0 : Int) + (i : Int) = (i : Int) := by omega
    by_cases c : i = a
    . subst c
      rw_mod_cast [e0, hk, clkC, hh, hg, atI_nat e1, atI_nat e3]
      exact stbX_bad hk af e2 bad x'
    . have fin : ∀ v, N (ys ++ [v]) μ2 := fun v => hN _ _ ⟨by omega, rfl, by simp [hy]⟩
      have h1' : i < hs.length := by omega
      have h2' : i < gs.length := by omega
      by_cases f : s.fa = some i
      . rw_mod_cast [e0, hk, clkC, hh, hg, atI_nat (List.getElem?_eq_getElem h1'), atI_nat (List.getElem?_eq_getElem h2')]
        exact stbX_fa hk f (List.getElem?_eq_getElem hin) (fin _)
      . obtain ⟨d', ws, g', f1, f2, f3, f4, f5, f6⟩ := good i (by omega) f
        rw_mod_cast [e0, hk, clkC, hh, hg, atI_nat f1, atI_nat f3]
        exact stbX_ok hk f n7 f2 f4 ⟨f5, f6⟩ fun v => fin _
  . rintro ys μ2 ⟨hi, _⟩
    rw [rangeD_length, Int.toNat_natCast] at hi
    omega
set_option synthInstance.maxHeartbeats 4000000
set_option synthInstance.maxSize 100000
set_option maxHeartbeats 4000000
theorem rangeL_range (n : Nat) : (rangeL 0 n).map D.int = (List.range n).map fun i : Nat => D.int (i : Int) := by
  apply List.ext_getElem?
  intro i
  by_cases hi : i < n
  . rw [List.getElem?_map, rangeL_get hi, List.getElem?_map, List.getElem?_range hi]
    simp
  . rw [List.getElem?_eq_none (by rw [List.length_map, rangeL_length]; omega), List.getElem?_eq_none (by simp; omega)]
theorem places_ok {n : Nat} {wc : DT} {ρb : DEnv} {μ : Mu} {Fin : List D -> Mu -> Prop} (P : Nat -> Bool) (hn : n <= 60) (step : ∀ p, p < n -> ∀ (R : Bool -> Mu -> Prop), R (P p) μ -> wc (ρb.set 0 (some (.int (p : Int)))) μ R) (hv : ∀ p : Nat, ∀ R : DK, R (.int (p : Int)) μ -> dVar 0 (ρb.set 0 (some (.int (p : Int)))) μ R)
    (fin : Fin (((List.range n).filter P).map fun i : Nat => D.int (i : Int)) μ) : dCLoop (dgName 0) wc (dVar 0) ρb (fun _ => True) Fin ((rangeL 0 n).map D.int) [] μ := by
  have hs : (100 : Nat) <= sizeLine := by decide
  rw [rangeL_range]
  refine dCLoop_filtM (List.range n) (fun i : Nat => D.int (i : Int)) P (fun i : Nat => D.int (i : Int)) (by rw [List.length_range]; omega) (fun p hp Y Z hY hZ => ?_) fin
  show wc (ρb.set 0 (some (.int (p : Int)))) μ _
  refine step p (List.mem_range.mp hp) _ ?_
  by_cases c : P p = true
  . rw [if_pos c]; exact hv p Y (hY c)
  . rw [if_neg c]; exact hZ (by simpa using c)
theorem filt_at {n : Nat} {P : Nat -> Bool} {v : Int} (h0 : 0 <= v) (h1 : v < ((((List.range n).filter P).map fun i : Nat => D.int (i : Int)).length : Int)) : ∃ p : Nat, p < n /\ P p = true /\ atI (((List.range n).filter P).map fun i : Nat => D.int (i : Int)) v = some (.int (p : Int)) := by
  rw [List.length_map] at h1
  obtain ⟨p, e1, e2⟩ := atI_lt h0 h1
  have hm := List.mem_filter.mp (List.mem_of_getElem? e2)
  exact ⟨p, List.mem_range.mp hm.1, hm.2, by rw [atI_map, e1]; rfl⟩
/-- the rows and the numbers handed in, as they stand -/
structure BentAt (s : Clk) (μ : Mu) (kb kg : Nat) (rs : List Nat) (heard : List (List (Option Int))) (gains : List Int) : Prop where
  b : μ kb = some (.lst (rs.map D.cell))
  g : μ kg = some (.lst (gains.map D.int))
  r : ∀ (i c : Nat), rs[i]? = some c -> ∃ ws, heard[i]? = some ws /\ μ c = some (.lst (ws.map wordD))
  nd : rs.Nodup
  nb : kb ∉ rs
  ng : kg ∉ rs
  ne : kb ≠ kg
  rl : rs.length = s.st.length
  gl : gains.length = s.st.length
  ok : ∀ ws ∈ heard, RowGood s ws
  gok : ∀ g ∈ gains, 0 <= g /\ g <= s.gain
section
variable {s : Clk} {μ : Mu} {kb kg : Nat} {rs : List Nat} {heard : List (List (Option Int))} {gains : List Int}
theorem BentAt.at (B : BentAt s μ kb kg rs heard gains) {p : Nat} (hp : p < s.st.length) : ∃ c ws g, rs[p]? = some c /\ heard[p]? = some ws /\ μ c = some (.lst (ws.map wordD)) /\ gains[p]? = some g /\ RowGood s ws /\ 0 <= g /\ g <= s.gain := by
  have h1 : p < rs.length := by rw [B.rl]; exact hp
  have h2 : p < gains.length := by rw [B.gl]; exact hp
  obtain ⟨ws, e1, e2⟩ := B.r p _ (List.getElem?_eq_getElem h1)
  have hg := B.gok _ (List.getElem_mem h2)
  exact ⟨_, ws, _, List.getElem?_eq_getElem h1, e1, e2, List.getElem?_eq_getElem h2, B.ok ws (List.mem_of_getElem? e1), hg.1, hg.2⟩
theorem BentAt.row (B : BentAt s μ kb kg rs heard gains) {a c : Nat} {ds : List D} {g : Int} (hc : rs[a]? = some c) (hf : s.fa ≠ some a) (hg : gains[a]? = some g) (bad : StbBad s ds (.int g)) : TurnBad s (mset μ c (.lst ds)) (rs.map D.cell) (gains.map D.int) := by
  have ha : a < s.st.length := by rw [<- B.rl]; exact (List.getElem?_eq_some_iff.mp hc).1
  refine .inr (.inr ⟨by rw [List.length_map]; exact B.rl, by rw [List.length_map]; exact B.gl, a, ha, hf, ⟨.cell c, ds, .int g, by rw [List.getElem?_map, hc]; rfl, lookL_cell mset_same, by rw [List.getElem?_map, hg]; rfl, bad⟩, fun p hp _ => ?_⟩)
  obtain ⟨c', ws, g', e1, e2, e3, e4, G, g0, g1⟩ := B.at (p := p) (by omega)
  have ne : c' ≠ c := fun z => by
    subst z
    obtain ⟨x1, y1⟩ := List.getElem?_eq_some_iff.mp hc
    obtain ⟨x2, y2⟩ := List.getElem?_eq_some_iff.mp e1
    have := (List.getElem_inj B.nd).mp (y2.trans y1.symm)
    omega
  exact ⟨.cell c', ws, g', by rw [List.getElem?_map, e1]; rfl, lookL_cell (by rw [mset_ne ne]; exact e3), by rw [List.getElem?_map, e4]; rfl, G, g0, g1⟩
/-- one word is changed -/
theorem word_bad {ws : List (Option Int)} {p : Nat} {d g : D} (G : RowGood s ws) (hp : p < s.st.length) (h : WordBad s p d) : StbBad s ((ws.map wordD).set p d) g := by
  have l := G.l
  refine .inr (.inl ⟨by rw [List.length_set, List.length_map]; exact l, p, d, by rw [List.getElem?_set_self (by rw [List.length_map]; omega)], h, fun j e hj he => ?_⟩)
  rw [List.getElem?_set_ne (by omega), List.getElem?_map] at he
  obtain ⟨w, hw, rfl⟩ := Option.map_eq_some_iff.mp he
  exact ⟨w, rfl, G.w j w hw⟩
theorem BentAt.gain (B : BentAt s μ kb kg rs heard gains) {a : Nat} {d : D} (ha : a < s.st.length) (hf : s.fa ≠ some a) (bad : NoNum 0 s.gain d) : TurnBad s (mset μ kg (.lst ((gains.map D.int).set a d))) (rs.map D.cell) ((gains.map D.int).set a d) := by
  have nk : ∀ c ∈ rs, c ≠ kg := fun c hc z => B.ng (z ▸ hc)
  obtain ⟨c, ws, g, e1, e2, e3, e4, G, _, _⟩ := B.at ha
  refine .inr (.inr ⟨by rw [List.length_map]; exact B.rl, by rw [List.length_set, List.length_map]; exact B.gl, a, ha, hf, ⟨.cell c, ws.map wordD, d, by rw [List.getElem?_map, e1]; rfl, lookL_cell (by rw [mset_ne (nk c (List.mem_of_getElem? e1))]; exact e3), by rw [List.getElem?_set_self (by rw [List.length_map, B.gl]; exact ha)], .inr (.inr ⟨ws, rfl, G, bad⟩)⟩, fun p hp _ => ?_⟩)
  obtain ⟨c', ws', g', f1, f2, f3, f4, G', g0, g1⟩ := B.at (p := p) (by omega)
  exact ⟨.cell c', ws', g', by rw [List.getElem?_map, f1]; rfl, lookL_cell (by rw [mset_ne (nk c' (List.mem_of_getElem? f1))]; exact f3), by rw [List.getElem?_set_ne (by omega), List.getElem?_map, f4]; rfl, G', g0, g1⟩
end
section
theorem able_has {n : Nat} {b : Option Nat} (h : 2 <= n) : ∃ p, p < n /\ b ≠ some p := by
  by_cases c : b = some 0
  . exact ⟨1, by omega, by rw [c]; simp⟩
  . exact ⟨0, by omega, c⟩
theorem filt_pos {n : Nat} {P : Nat -> Bool} (h : ∃ p, p < n /\ P p = true) : 0 < ((((List.range n).filter P).map fun i : Nat => D.int (i : Int)).length : Int) := by
  obtain ⟨p, hp, hP⟩ := h
  have : p ∈ (List.range n).filter P := List.mem_filter.mpr ⟨List.mem_range.mpr hp, hP⟩
  have := List.length_pos_of_mem this
  rw [List.length_map]; omega
theorem filt_len {n : Nat} {P : Nat -> Bool} : (((List.range n).filter P).map fun i : Nat => D.int (i : Int)).length <= n := by
  rw [List.length_map]
  have := List.length_filter_le P (List.range n)
  rw [List.length_range] at this; exact this
theorem bend_ok {s : Clk} {μ : Mu} {ks kb kg kt : Nat} {rs : List Nat} {heard : List (List (Option Int))} {gains : List Int} {Q : DK} (hs : μ ks = some .draw) (ht : μ kt = some (.lst ((tsL s.st.length s.fa s.li).map D.int))) (n4 : 4 <= s.st.length) (n7 : s.st.length <= 7) (md : ModeOk s.st.length s.fa s.li) (B : BentAt s μ kb kg rs heard gains) (he : 0 <= s.err)
    (q : ∀ μ' hs gs, μ' kb = some (.lst hs) -> μ' kg = some (.lst gs) -> TurnBad s μ' hs gs -> (∀ j, j ≠ kb -> j ≠ kg -> j ∉ rs -> μ' j = μ j) -> Q .non μ') :
    dsp_law_bend [.cell ks, .cell kb, .cell kg, .lst (s.st.map D.int), .cell kt, .int s.err, .int s.gain] μ Q := by
  have hz : (100 : Nat) <= sizeLine := by decide
  refine ⟨rfl, stp fun N1 h1 => ?_⟩
  rw_mod_cast []
  refine ⟨hs, by decide, by decide, fun v v0 v1 => h1 _ _ (stp fun N2 h2 => ?_)⟩
  rw_mod_cast [ht, List.length_map, ts_len]
  refine ⟨by decide, by omega, by omega, ?_⟩
  rw [Int.toNat_natCast]
  refine places_ok (fun p => !decide (s.fa = some p)) (by omega) (fun p hp R hR => ?_) (fun p R hR => by rw_mod_cast []; exact hR) ?_
  . rw_mod_cast [ht, atI_map, atI_nat (ts_get (fa := s.fa) (li := s.li) hp), Option.map_some, tv_1]
    exact hR
  refine h2 _ _ (stp fun N3 h3 => ?_)
  have pa := filt_pos (n := s.st.length) (P := fun p => !decide (s.fa = some p)) (by
    obtain ⟨p, hp, hb⟩ := able_has (b := s.fa) (show 2 <= s.st.length by omega)
    exact ⟨p, hp, by simpa using hb⟩)
  have la := filt_len (n := s.st.length) (P := fun p => !decide (s.fa = some p))
  rw_mod_cast []
  refine ⟨hs, pa, by omega, fun w w0 w1 => ?_⟩
  obtain ⟨a, an, aP, ea⟩ := filt_at w0 w1
  have af : s.fa ≠ some a := by simpa using aP
  rw_mod_cast [ea]
  refine h3 _ _ (stp fun N4 h4 => ?_)
  rw_mod_cast [ht, List.length_map, ts_len]
  refine ⟨by decide, by omega, by omega, ?_⟩
  rw [Int.toNat_natCast]
  refine places_ok (fun p => decide (tv s.fa s.li p = 0)) (by omega) (fun p hp R hR => ?_) (fun p R hR => by rw_mod_cast []; exact hR) ?_
  . rw_mod_cast [ht, atI_map, atI_nat (ts_get (fa := s.fa) (li := s.li) hp), Option.map_some]
    exact hR
  refine h4 _ _ (stp fun N5 h5 => ?_)
  have po := filt_pos (n := s.st.length) (P := fun p => decide (tv s.fa s.li p = 0)) (by
    obtain ⟨p, hp, hb⟩ := able_has (b := bd s.fa s.li) (show 2 <= s.st.length by omega)
    exact ⟨p, hp, by rw [tv_good md]; simpa using hb⟩)
  have lo := filt_len (n := s.st.length) (P := fun p => decide (tv s.fa s.li p = 0))
  rw_mod_cast []
  refine ⟨hs, po, by omega, fun u u0 u1 => ?_⟩
  obtain ⟨o, on, oP, eo⟩ := filt_at u0 u1
  have ob : bd s.fa s.li ≠ some o := by rw [tv_good md] at oP; simpa using oP
  have of : s.fa ≠ some o := fun z => ob ((bd_or md).mp (.inl z))
  have ol : s.li ≠ some o := fun z => ob ((bd_or md).mp (.inr z))
  rw_mod_cast [eo]
  refine h5 _ _ ?_
  obtain ⟨c, ws, g, ec, ew, mc, eg, G, g0, g1⟩ := B.at an
  have est : s.st[o]? = some s.st[o] := List.getElem?_eq_getElem on
  have cr : c ∈ rs := List.mem_of_getElem? ec
  have ckb : kb ≠ c := fun z => B.nb (z ▸ cr)
  have ckg : kg ≠ c := fun z => B.ng (z ▸ cr)
  have hc : (rs.map D.cell)[a]? = some (.cell c) := by rw [List.getElem?_map, ec]; rfl
  -- a row's change
  have row : ∀ ds, StbBad s ds (.int g) -> ∃ μ'', MLe μ'' (mset μ c (.lst ds)) /\ Q .non μ'' := fun ds bad => ⟨_, .refl _, q _ _ _ (by rw [mset_ne ckb]; exact B.b) (by rw [mset_ne ckg]; exact B.g) (B.row ec af eg bad) fun j _ _ hj => mset_ne fun z => hj (z ▸ cr)⟩
  have wbad : ∀ d, NoNum s.st[o] (s.st[o] + s.err) d -> WordBad s o d := fun d h => by
    unfold WordBad
    rw [if_neg ol]
    exact ⟨of, _, est, h⟩
  have wl : (ws.map wordD).length = s.st.length := by rw [List.length_map]; exact G.l
  have ixo : ixN s.st.length (o : Int) = some o := by rw [ixN_lt (by omega) (by omega), Int.toNat_natCast]
  have ixa : ixN s.st.length (a : Int) = some a := by rw [ixN_lt (by omega) (by omega), Int.toNat_natCast]
  obtain rfl | rfl | rfl | rfl | rfl | rfl | rfl | rfl | rfl : v = 0 \/ v = 1 \/ v = 2 \/ v = 3 \/ v = 4 \/ v = 5 \/ v = 6 \/ v = 7 \/ v = 8 := by omega
  . rw_mod_cast [atI_map, atI_nat est, Option.map_some, B.b, atI_nat ec, mc, wl, ixo]
    exact row _ (word_bad G on (wbad _ (.inr (.inr ⟨_, rfl, by omega⟩))))
  . rw_mod_cast [atI_map, atI_nat est, Option.map_some, B.b, atI_nat ec, mc, wl, ixo]
    exact row _ (word_bad G on (wbad _ (.inr (.inr ⟨_, rfl, by omega⟩))))
  . rw_mod_cast [atI_map, atI_nat est, Option.map_some, B.b, atI_nat ec, mc, wl, ixo]
    exact row _ (word_bad G on (wbad _ (.inl rfl)))
  . rw_mod_cast [B.g]
    refine ⟨by decide, hs, by decide, by decide, fun t t0 t1 => ?_⟩
    have gb : ∀ d, NoNum 0 s.gain d -> ∃ μ'', MLe μ'' (mset μ kg (.lst ((gains.map D.int).set a d))) /\ Q .non μ'' := fun d h => ⟨_, .refl _, q _ _ _ (by rw [mset_ne B.ne]; exact B.b) mset_same (B.gain an af h) fun j _ hj _ => mset_ne hj⟩
    have gl := B.gl
    obtain rfl | rfl | rfl : t = 0 \/ t = 1 \/ t = 2 := by omega
    . rw_mod_cast [B.g, List.length_map, gl, ixa]
      exact gb _ (.inr (.inr ⟨_, rfl, by omega⟩))
    . rw_mod_cast [B.g, List.length_map, gl, ixa]
      exact gb _ (.inr (.inr ⟨_, rfl, by omega⟩))
    . rw_mod_cast [B.g, List.length_map, gl, ixa]
      exact gb _ (.inr (.inl rfl))
  . rw_mod_cast [atI_map, atI_nat est, Option.map_some, B.b, atI_nat ec, mc]
    refine ⟨by omega, row _ (.inl ?_)⟩
    rw [List.length_append, wl]; simp
  . have hw : s.st.length - 1 < (ws.map wordD).length := by omega
    rw_mod_cast [B.b, atI_map, atI_nat ec, Option.map_some, mc, wl, List.getElem?_eq_getElem hw]
    refine row _ (.inl ?_)
    rw [List.length_dropLast, wl]; omega
  . have gl := B.gl
    have hw : (gains.map D.int).length - 1 < (gains.map D.int).length := by rw [List.length_map]; omega
    rw_mod_cast [B.g, List.getElem?_eq_getElem hw]
    exact ⟨_, .refl _, q _ _ _ (by rw [mset_ne B.ne]; exact B.b) mset_same (.inr (.inl (by rw [List.length_dropLast, List.length_map]; omega))) fun j _ hj _ => mset_ne hj⟩
  . have rl := B.rl
    rw_mod_cast [B.b, atI_map, atI_nat ec, Option.map_some, mc]
    refine ⟨by rw [List.length_map]; omega, _, .refl _, q _ _ _ mset_same (by rw [mset_ne B.ne.symm]; exact B.g) (.inl (by rw [List.length_append, List.length_map, rl]; simp)) fun j hj _ _ => mset_ne hj⟩
  . rw_mod_cast [ht, List.length_map, ts_len]
    refine ⟨by decide, by omega, by omega, ?_⟩
    rw [Int.toNat_natCast]
    refine places_ok (fun p => decide (tv s.fa s.li p = 2)) (by omega) (fun p hp R hR => ?_) (fun p R hR => by rw_mod_cast []; exact hR) ?_
    . rw_mod_cast [ht, atI_map, atI_nat (ts_get (fa := s.fa) (li := s.li) hp), Option.map_some]
      exact hR
    by_cases e : (0 : Int) < ((((List.range s.st.length).filter fun p => decide (tv s.fa s.li p = 2)).map fun i : Nat => D.int (i : Int)).length : Int)
    . obtain ⟨p0, pn, pP, ep⟩ := filt_at (Int.le_refl 0) e
      have pl : s.li = some p0 := by
        have : tv s.fa s.li p0 = 2 := of_decide_eq_true pP
        unfold tv at this
        by_cases c1 : s.fa = some p0
        . rw [if_pos c1] at this; omega
        . rw [if_neg c1] at this
          by_cases c2 : s.li = some p0
          . exact c2
          . rw [if_neg c2] at this; omega
      have ixp : ixN s.st.length (p0 : Int) = some p0 := by rw [ixN_lt (by omega) (by omega), Int.toNat_natCast]
      rw [if_pos (decide_eq_true e)]
      rw_mod_cast [atI_map, atI_nat est, Option.map_some, B.b, atI_nat ec, ep, mc, wl, ixp]
      refine row _ (word_bad G pn ?_)
      unfold WordBad
      rw [if_pos pl]
      exact ⟨rfl, .inr ⟨_, rfl⟩⟩
    . rw [if_neg (by simpa using e)]
      rw_mod_cast [B.b, atI_map, atI_nat ec, Option.map_some, mc, wl, ixo]
      exact row _ (word_bad G on (wbad _ (.inr (.inl rfl))))
end
set_option synthInstance.maxHeartbeats 4000000
set_option synthInstance.maxSize 100000
set_option maxHeartbeats 4000000
theorem zeros_ts (st : List Int) : (st.map D.int).map (fun _ => D.int 0) = (tsL st.length none none).map D.int := by
  unfold tsL
  apply List.ext_getElem?
  intro p
  simp only [List.getElem?_map, List.map_map]
  by_cases h : p < st.length
  . rw [List.getElem?_eq_getElem h, List.getElem?_range h]; rfl
  . rw [List.getElem?_eq_none (by omega), List.getElem?_eq_none (by simp; omega)]; rfl
theorem ts_fall {n p : Nat} (hp : p < n) : ((tsL n none none).map D.int).set p (.int 1) = (tsL n (some p) none).map D.int := by
  rw [<- ts_set (fa := none) (li := none) (fa' := some p) (li' := none) hp fun r => ?_, List.map_set]
  . rw [show tv (some p) none p = 1 by simp [tv]]
  . by_cases c : r = p
    . subst c; rw [if_pos rfl]
    . rw [if_neg c]; simp [tv, Ne.symm c]
theorem ts_listen {n p : Nat} (hp : p < n) : ((tsL n none none).map D.int).set p (.int 2) = (tsL n none (some p)).map D.int := by
  rw [<- ts_set (fa := none) (li := none) (fa' := none) (li' := some p) hp fun r => ?_, List.map_set]
  . rw [show tv none (some p) p = 2 by simp [tv]]
  . by_cases c : r = p
    . subst c; rw [if_pos rfl]
    . rw [if_neg c]; simp [tv, Ne.symm c]
theorem rise_ok {s : Clk} {k p : Nat} {μ : Mu} {Q : DK} (hk : μ k = some (clkC s)) (hp : p < s.st.length) (hf : s.fa = some p) (q : Q .non (mset μ k (clkC ⟨s.st, s.err, s.gain, none, some p⟩))) : dsp_Clocks_rise [.cell k, .int (p : Int)] μ Q := by
  refine ⟨rfl, ?_⟩
  refine stp fun N1 h1 => ?_
  rw_mod_cast [hk, clkC]
  refine chkp_ok hk (by omega) (by omega) (h1 _ _ (stp fun N2 h2 => ?_))
  rw_mod_cast [hk, clkC, dNe_optN, decide_eq_true hf]
  refine h2 _ _ (stp fun N3 h3 => ?_)
  rw_mod_cast [hk, clkC]
  refine h3 _ _ ?_
  rw_mod_cast [mset_same, mset_mset]
  exact ⟨_, .refl _, q⟩
theorem dEq_lst {ds : List D} {n : Nat} {μ : Mu} {Q : DK} (h : Pl n (.lst ds)) (hn : n <= 60) (q : Q (.bl true) μ) : dEq (.lst ds) (.lst ds) μ Q := by
  obtain ⟨p, e, c, b⟩ := Pl.py n _ h
  have ok : EqOk p := ⟨c, by omega⟩
  unfold dEq dEqN
  simp only [toPyM_of e]
  exact ⟨ok, ok, by rw [eqv_self ok]; exact q⟩
theorem pl_words (ws : List (Option Int)) : Pl 1 (.lst (ws.map wordD)) := fun d hd => by
  obtain ⟨w, _, rfl⟩ := List.mem_map.mp hd
  cases w <;> trivial
theorem rd_law : ∀ ds μ Q, dspLaw ds μ Q -> bodySp w_law N_law 1 ds μ Q := by
  rintro ds μ Q ⟨ns, rfl, hl, q⟩
  have hz : (100 : Nat) <= sizeLine := by decide
  refine ⟨rfl, stp fun N1 h1 => ?_⟩
  walk_at "e"
  refine fun k hk => h1 _ _ (stp fun N2 h2 => ?_)
  walk_at "e"
  refine clocks_ok mset_same fun st e g lo n4 n7 he hg hlo hst => ?_
  walk_at "e"
  refine h2 _ _ (stp fun N3 h3 => ?_)
  walk_at "e"
  refine fun kc hkc => ?_
  refine init_ok n4 n7 he hg (fun a ha b hb => by have := hst a ha; have := hst b hb; omega) ⟨rfl, h3 _ _ (stp fun N4 h4 => ?_)⟩
  walk_at "e"
  refine ⟨by decide, ?_⟩
  refine dCLoopN_by (fun i ys μ2 => μ2 = mset (mset μ k .draw) kc (clkC ⟨st, e, g, none, none⟩) /\ ys = ((st.map D.int).map (fun _ => D.int 0)).take i) ⟨rfl, rfl⟩ ?_ ?_
  . rintro i d ys μ2 hd ⟨rfl, rfl⟩
    have hi := (List.getElem?_eq_some_iff.mp hd).1
    rw [List.length_map] at hi
    refine ⟨by rw [List.length_take]; omega, fun N hN => ?_⟩
    walk_at "e"
    refine hN _ _ ⟨rfl, ?_⟩
    rw [List.take_add_one, List.getElem?_map, hd]; rfl
  rintro ys μ2 ⟨rfl, rfl⟩ kt hkt
  rw [List.take_of_length_le (by simp), zeros_ts]
  refine h4 _ _ (stp fun N5 h5 => ?_)
  have hkk : kc ≠ k := fun z => by subst z; rw [mset_same] at hkc; cases hkc
  have ktc : kt ≠ kc := fun z => by subst z; rw [mset_same] at hkt; cases hkt
  have ktk : kt ≠ k := fun z => by subst z; rw [mset_ne (Ne.symm hkk), mset_same] at hkt; cases hkt
  generalize hμ : mset (mset (mset μ k .draw) kc (clkC ⟨st, e, g, none, none⟩)) kt (.lst ((tsL st.length none none).map D.int)) = μ1
  have m1 : μ1 k = some .draw := by rw [<- hμ, mset_ne (Ne.symm ktk), mset_ne (Ne.symm hkk), mset_same]
  have m2 : μ1 kc = some (clkC ⟨st, e, g, none, none⟩) := by rw [<- hμ, mset_ne (Ne.symm ktc), mset_same]
  have m3 : μ1 kt = some (.lst ((tsL st.length none none).map D.int)) := by rw [<- hμ, mset_same]
  clear hμ
  rw_mod_cast [m1]
  refine ⟨by decide, by decide, fun kd k0 k1 => h5 _ _ ?_⟩
  refine cut1 (fun ρ μ2 => ∃ x8 fa li, ρ = [some (.scr ns), some (.cell k), some (.lst (st.map D.int)), some (.int e), some (.int g), some (.cell kc), some (.cell kt), some (.int kd), x8, none, none, none, none, none, none, none, none] /\ μ2 k = some .draw /\ μ2 kc = some (clkC ⟨st, e, g, fa, li⟩) /\ μ2 kt = some (.lst ((tsL st.length fa li).map D.int)) /\ ModeOk st.length fa li) (fun N6 h6 => ?_) ?_
  . by_cases c : 0 < kd
    . rw_mod_cast [decide_eq_true c, m3, m1, List.length_map, ts_len]
      refine ⟨by omega, by omega, fun a a0 a1 => ?_⟩
      obtain ⟨p, rfl⟩ : ∃ p : Nat, a = (p : Int) := ⟨a.toNat, by omega⟩
      have hp : p < st.length := by omega
      have ixp : ixN st.length (p : Int) = some p := by rw [ixN_lt a0 a1, Int.toNat_natCast]
      rw_mod_cast [m2, clkC]
      refine fall_ok m2 hp rfl rfl ?_
      obtain rfl | rfl : kd = 1 \/ kd = 2 := by omega
      . rw_mod_cast [mset_ne ktc, m3, List.length_map, ts_len, ixp, ts_fall hp]
        exact h6 _ _ ⟨_, some p, none, rfl, by rw [mset_ne (Ne.symm ktk), mset_ne (Ne.symm hkk)]; exact m1, by rw [mset_ne (Ne.symm ktc), mset_same], mset_same, ⟨(fun q hq => by cases hq; exact hp), .inr rfl⟩⟩
      . rw_mod_cast [mset_same, clkC]
        refine rise_ok (s := ⟨st, e, g, some p, none⟩) mset_same hp rfl ?_
        rw_mod_cast [mset_mset, mset_ne ktc, m3, List.length_map, ts_len, ixp, ts_listen hp]
        exact h6 _ _ ⟨_, none, some p, rfl, by rw [mset_ne (Ne.symm ktk), mset_ne (Ne.symm hkk)]; exact m1, by rw [mset_ne (Ne.symm ktc), mset_same], mset_same, ⟨(fun q hq => by cases hq; exact hp), .inl rfl⟩⟩
    . rw_mod_cast [decide_eq_false c]
      exact h6 _ _ ⟨_, none, none, rfl, m1, m2, m3, ⟨(fun q hq => by cases hq), .inl rfl⟩⟩
  clear m1 m2 m3
  rintro ρ μ2 ⟨x8, fa, li, rfl, m1, m2, m3, md⟩
  refine stp fun N7 h7 => ?_
  generalize hn : st.length = n at *
  rw_mod_cast [m3]
  refine ⟨by decide, ?_⟩
  refine dCLoopN_by (fun i ys μ4 => μ4 = μ2 /\ ∃ rows, ys = rows.map rowD /\ rows.length = i /\ ∀ ws ∈ rows, HOk ⟨st, e, g, fa, li⟩ ws) ⟨rfl, [], rfl, rfl, by simp⟩ ?_ ?_ (fun i ys μ4 h => by rw [h.1]; exact m3)
  . rintro i d ys μ4 hd ⟨rfl, rows, rfl, hl, hI⟩
    have hi : i < n := by have := (List.getElem?_eq_some_iff.mp hd).1; rw [List.length_map, ts_len] at this; exact this
    refine ⟨by rw [List.length_map]; omega, fun N hN => ?_⟩
    rw_mod_cast [m3]
    refine ⟨by decide, ?_⟩
    refine dCLoopN_by (fun i ys μ2 => μ2 = μ4 /\ ys = ((goodL n (bd fa li)).take i).map D.bl) ⟨rfl, rfl⟩ ?_ ?_ (fun i ys μ2 h => by rw [h.1]; exact m3)
    . rintro i d ys μ2 hd ⟨rfl, rfl⟩
      obtain ⟨t, et, rfl⟩ := mem_int hd
      have hi : i < n := by have := (List.getElem?_eq_some_iff.mp et).1; rw [ts_len] at this; exact this
      rw [ts_get hi] at et
      cases et
      refine ⟨by rw [List.length_map, List.length_take]; omega, fun N hN => ?_⟩
      walk_at "e"
      refine hN _ _ ⟨rfl, ?_⟩
      rw [tv_good md, List.take_add_one, good_get hi, List.map_append]; rfl
    rintro ys μ2 ⟨rfl, rfl⟩
    rw [List.length_map, ts_len, List.take_of_length_le (by simp [goodL])]
    rw_mod_cast [in_ints_c m3, one_in md, Bool.false_xor]
    rw [show goodL n (bd fa li) = goodL st.length (bd fa li) by rw [hn]]
    refine heard_ok m1 (by omega) he fun ws w1 w2 => hN _ _ ⟨rfl, rows ++ [ws], by rw [List.map_append]; rfl, by rw [List.length_append, hl]; rfl, fun x hx => ?_⟩
    rcases List.mem_append.mp hx with hx | hx
    . exact hI x hx
    . obtain rfl : x = ws := by simpa using hx
      exact ⟨w1, w2⟩
  rintro ys μ4 ⟨rfl, heard, rfl, hhl, hH⟩
  rw [List.length_map, ts_len] at hhl
  refine h7 _ _ (stp fun N8 h8 => ?_)
  rw_mod_cast [m3]
  refine ⟨by decide, ?_⟩
  refine dCLoopN_by (fun i ys μ2 => μ2 = μ4 /\ ∃ gs : List Int, ys = gs.map D.int /\ gs.length = i /\ ∀ x ∈ gs, 0 <= x /\ x <= g) ⟨rfl, [], rfl, rfl, by simp⟩ ?_ ?_ (fun i ys μ2 h => by rw [h.1]; exact m3)
  . rintro i d ys μ2 hd ⟨rfl, gs, rfl, hgl, hI⟩
    have hi : i < n := by have := (List.getElem?_eq_some_iff.mp hd).1; rw [List.length_map, ts_len] at this; exact this
    refine ⟨by rw [List.length_map]; omega, fun N hN => ?_⟩
    rw_mod_cast [m1]
    refine ⟨by omega, by omega, fun v v0 v1 => hN _ _ ⟨rfl, gs ++ [v], by rw [List.map_append]; rfl, by rw [List.length_append, hgl]; rfl, fun x hx => ?_⟩⟩
    rcases List.mem_append.mp hx with hx | hx
    . exact hI x hx
    . obtain rfl : x = v := by simpa using hx
      omega
  rintro ys μ2 ⟨rfl, gs, rfl, hgl, hG⟩
  rw [List.length_map, ts_len] at hgl
  refine h8 _ _ (stp fun N9 h9 => ?_)
  rw_mod_cast []
  refine ⟨by decide, ?_⟩
  refine dCLoopN_by (fun i ys μ' => ∃ rs : List Nat, ys = rs.map D.cell /\ rs.length = i /\ rs.Nodup /\ (∀ (j c : Nat), rs[j]? = some c -> ∃ ws, heard[j]? = some ws /\ μ' c = some (.lst (ws.map wordD))) /\ ∀ j ct, μ2 j = some ct -> μ' j = some ct /\ j ∉ rs) ⟨[], rfl, rfl, List.nodup_nil, fun j c e => (by simp at e), fun j ct e => ⟨e, by simp⟩⟩ ?_ ?_
  . rintro i d ys μ' hd ⟨rs, rfl, hrl, hnd, hr, hk⟩
    rw [List.getElem?_map] at hd
    obtain ⟨ws, hws, rfl⟩ := Option.map_eq_some_iff.mp hd
    have hi : i < n := by have := (List.getElem?_eq_some_iff.mp hws).1; omega
    refine ⟨by rw [List.length_map]; omega, fun N hN => ?_⟩
    unfold rowD
    rw_mod_cast []
    intro c hc
    have nin : c ∉ rs := fun z => by
      obtain ⟨j, hj⟩ := List.mem_iff_getElem?.mp z
      obtain ⟨ws', _, e⟩ := hr j c hj
      rw [hc] at e; cases e
    refine hN _ _ ⟨rs ++ [c], by rw [List.map_append]; rfl, by rw [List.length_append, hrl]; rfl, ?_, fun j c' ej => ?_, fun j ct ej => ?_⟩
    . exact List.nodup_append.mpr ⟨hnd, by simp, fun a ha b hb z => nin (by rw [List.mem_singleton.mp hb] at z; exact z ▸ ha)⟩
    . rw [List.getElem?_append] at ej
      split at ej
      . obtain ⟨ws', e1, e2⟩ := hr j c' ej
        exact ⟨ws', e1, by rw [mset_ne (fun z => by rw [z, hc] at e2; cases e2)]; exact e2⟩
      . rename_i hlt
        have hj : j = i := by
          have := (List.getElem?_eq_some_iff.mp ej).1
          simp at this; omega
        subst hj
        rw [hrl, Nat.sub_self] at ej
        cases ej
        exact ⟨ws, hws, mset_same⟩
    . obtain ⟨e1, e2⟩ := hk j ct ej
      have jc : j ≠ c := fun z => by rw [z, hc] at e1; cases e1
      exact ⟨by rw [mset_ne jc]; exact e1, fun z => (List.mem_append.mp z).elim e2 fun y => jc (List.mem_singleton.mp y)⟩
  rintro ys μ3 ⟨rs, rfl, hrl, hnd, hr, hkp⟩ kb hkb
  rw [List.length_map] at hrl
  refine h9 _ _ (stp fun N10 h10 => ?_)
  rw_mod_cast []
  intro kg hkg
  refine h10 _ _ (stp fun N11 h11 => ?_)
  have fresh : ∀ {μ : Mu} {a j : Nat} {ct : Ct}, μ a = none -> μ j = some ct -> j ≠ a := fun {μ a j ct} h1 h2 z => by rw [z, h1] at h2; cases h2
  have kgb : kb ≠ kg := fun z => by rw [<- z, mset_same] at hkg; cases hkg
  have keep : ∀ j ct, μ2 j = some ct -> mset (mset μ3 kb (.lst (rs.map D.cell))) kg (.lst (gs.map D.int)) j = some ct /\ j ≠ kb /\ j ≠ kg /\ j ∉ rs := fun j ct ej => by
    obtain ⟨e1, e2⟩ := hkp j ct ej
    have a1 := fresh hkb e1
    have e3 : mset μ3 kb (.lst (rs.map D.cell)) j = some ct := by rw [mset_ne a1]; exact e1
    have a2 := fresh hkg e3
    exact ⟨by rw [mset_ne a2]; exact e3, a1, a2, e2⟩
  have rowc : ∀ (j c : Nat), rs[j]? = some c -> ∃ ws, heard[j]? = some ws /\ mset (mset μ3 kb (.lst (rs.map D.cell))) kg (.lst (gs.map D.int)) c = some (.lst (ws.map wordD)) /\ c ≠ kb /\ c ≠ kg := fun j c ej => by
    obtain ⟨ws, e1, e2⟩ := hr j c ej
    have a1 := fresh hkb e2
    have e3 : mset μ3 kb (.lst (rs.map D.cell)) c = some (.lst (ws.map wordD)) := by rw [mset_ne a1]; exact e2
    have a2 := fresh hkg e3
    exact ⟨ws, e1, by rw [mset_ne a2]; exact e3, a1, a2⟩
  have n4' : 4 <= st.length := by omega
  have rg : ∀ ws ∈ heard, RowGood ⟨st, e, g, fa, li⟩ ws := fun ws hw => ⟨(hH ws hw).1, (hH ws hw).word (n := n) md, (hH ws hw).row.nums3 n4'⟩
  have B : BentAt ⟨st, e, g, fa, li⟩ (mset (mset μ3 kb (.lst (rs.map D.cell))) kg (.lst (gs.map D.int))) kb kg rs heard gs := ⟨by rw [mset_ne kgb, mset_same], mset_same, fun j c ej => by
      obtain ⟨ws, e1, e2, _, _⟩ := rowc j c ej
      exact ⟨ws, e1, e2⟩, hnd, fun z => (by
      obtain ⟨j, hj⟩ := List.mem_iff_getElem?.mp z
      obtain ⟨_, _, _, a, _⟩ := rowc j _ hj
      exact a rfl), fun z => (by
      obtain ⟨j, hj⟩ := List.mem_iff_getElem?.mp z
      obtain ⟨_, _, _, _, a⟩ := rowc j _ hj
      exact a rfl), kgb, by show rs.length = st.length; omega, by show gs.length = st.length; omega, rg, hG⟩
  generalize mset (mset μ3 kb (.lst (rs.map D.cell))) kg (.lst (gs.map D.int)) = μ5 at B keep
  rw_mod_cast []
  refine bend_ok (s := ⟨st, e, g, fa, li⟩) (keep _ _ m1).1 (by show _ = some (Ct.lst ((tsL st.length fa li).map D.int)); rw [hn]; exact (keep _ _ m3).1) n4' (by show st.length <= 7; omega) (by show ModeOk st.length fa li; rw [hn]; exact md) B he.1 fun μ6 hsd gsd b1 b2 bad k6 => ?_
  have keep6 : ∀ j ct, μ2 j = some ct -> μ6 j = some ct := fun j ct ej => by
    obtain ⟨e1, a1, a2, a3⟩ := keep j ct ej
    rw [k6 j a1 a2 a3]; exact e1
  have c1 := keep6 _ _ m1
  have c2 := keep6 _ _ m2
  have c3 := keep6 _ _ m3
  clear keep keep6 k6 B rowc hkp hr
  refine h11 _ _ (stp fun N12 h12 => ?_)
  rw_mod_cast [c2, clkC]
  refine told_ok c2 (by show st.length <= 7; omega) (h12 _ _ (stp fun N13 h13 => ?_))
  rw_mod_cast []
  refine h13 _ _ (stp fun N14 h14 => ?_)
  rw_mod_cast [c2, clkC]
  refine turnX_bad c2 b1 b2 (by show st.length <= 7; omega) bad ?_
  refine ⟨by decide, kind_ok (by decide) ?_⟩
  refine h14 _ _ (stp fun N15 h15 => ?_)
  rw_mod_cast [c2, clkC]
  refine told_ok c2 (by show st.length <= 7; omega) ?_
  refine dNe_lst (pl_words _) (by decide) ?_
  rw_mod_cast []
  refine h15 _ _ (stp fun N16 h16 => ?_)
  rw_mod_cast [c3, List.length_map, ts_len]
  refine ⟨by decide, by omega, by omega, ?_⟩
  have te : ∀ p, p < n -> (told ⟨st, e, g, fa, li⟩)[p]? = some (if bd fa li = some p then none else some (st.getD p 0)) := fun p hp => by
    have hp' : p < st.length := by omega
    rw [told_get (s := ⟨st, e, g, fa, li⟩) md (List.getElem?_eq_getElem hp'), getD_at (List.getElem?_eq_getElem hp')]
  have tl : (told ⟨st, e, g, fa, li⟩).length = n := by rw [told_len]; exact hn
  refine dCLoopN_by (fun i ys μ' => μ' = μ6 /\ ys = ((told ⟨st, e, g, fa, li⟩).take i).map wordD) ⟨rfl, rfl⟩ ?_ ?_
  . rintro i d ys μ' hd ⟨rfl, rfl⟩
    obtain ⟨hi, rfl⟩ := rangeL_get? hd
    rw [Int.toNat_natCast] at hi
    refine ⟨by rw [List.length_map, List.length_take]; omega, fun N hN => ?_⟩
    have e0 : (0 : Int) + (i : Int) = (i : Int) := by omega
    have hp' : i < st.length := by omega
    have el : st[i]? = some st[i] := List.getElem?_eq_getElem hp'
    have fin : N (((told ⟨st, e, g, fa, li⟩).take i).map wordD ++ [wordD (if bd fa li = some i then none else some (st.getD i 0))]) μ' := hN _ _ ⟨rfl, by rw [List.take_add_one, te i hi, List.map_append]; rfl⟩
    rw_mod_cast [e0, c3, atI_map, atI_nat (ts_get (fa := fa) (li := li) hi), Option.map_some, tv_good md]
    by_cases c : bd fa li = some i
    . rw_mod_cast [decide_eq_false (show ¬ (bd fa li ≠ some i) from fun z => z c)]
      rw [if_pos c] at fin; exact fin
    . rw_mod_cast [decide_eq_true (show bd fa li ≠ some i from c), atI_map, atI_nat el, Option.map_some]
      rw [if_neg c, getD_at el] at fin; exact fin
  rintro ys μ' ⟨rfl, rfl⟩
  rw [rangeD_length, Int.toNat_natCast, List.take_of_length_le (by omega)]
  refine dNe_lst (pl_words _) (by decide) ?_
  rw_mod_cast []
  refine h16 _ _ (stp fun N17 h17 => ?_)
  rw_mod_cast [c2, clkC]
  have tok : TurnOk ⟨st, e, g, fa, li⟩ heard gs := by
    refine ⟨by show st.length <= 7; omega, by show heard.length = st.length; omega, by show gs.length = st.length; omega, fun p ws gn e1 e2 np => ?_⟩
    have G := rg ws (List.mem_of_getElem? e1)
    exact ⟨G.l, G.w, hG gn (List.mem_of_getElem? e2), G.n⟩
  refine turn_ok c2 tok fun st2 hl2 hnew => h17 _ _ (stp fun N18 h18 => ?_)
  have ktc : kt ≠ kc := fun z => by rw [z, c2] at c3; cases c3
  have d3 : mset μ' kc (clkC ⟨st2, e, g, fa, none⟩) kt = some (.lst ((tsL n fa li).map D.int)) := by rw [mset_ne ktc]; exact c3
  have d2 : mset μ' kc (clkC ⟨st2, e, g, fa, none⟩) kc = some (clkC ⟨st2, e, g, fa, none⟩) := mset_same
  generalize mset μ' kc (clkC ⟨st2, e, g, fa, none⟩) = μ7 at d2 d3
  have s2l : st2.length = n := by rw [hl2]; exact hn
  have te2 : ∀ p, p < n -> (told ⟨st2, e, g, fa, none⟩)[p]? = some (if fa = some p then none else some (st2.getD p 0)) := fun p hp => by
    have hp' : p < st2.length := by omega
    have md2 : ModeOk n fa none := ⟨fun q hq => md.lt q (by cases fa with | none => cases hq | some r => exact hq), .inr rfl⟩
    rw [told_get (s := ⟨st2, e, g, fa, none⟩) md2 (List.getElem?_eq_getElem hp'), getD_at (List.getElem?_eq_getElem hp')]
    have : bd fa none = fa := by cases fa <;> rfl
    rw [this]
  have tl2 : (told ⟨st2, e, g, fa, none⟩).length = n := by rw [told_len]; exact s2l
  rw_mod_cast [d3, List.length_map, ts_len]
  refine ⟨by decide, by omega, by omega, ?_⟩
  refine dCLoopN_by (fun i ys μ' => μ' = μ7 /\ ys = ((told ⟨st2, e, g, fa, none⟩).take i).map wordD) ⟨rfl, rfl⟩ ?_ ?_
  . rintro i d ys μ' hd ⟨rfl, rfl⟩
    obtain ⟨hi, rfl⟩ := rangeL_get? hd
    rw [Int.toNat_natCast] at hi
    refine ⟨by rw [List.length_map, List.length_take]; omega, fun N hN => ?_⟩
    have e0 : (0 : Int) + (i : Int) = (i : Int) := by omega
    have hp' : i < st2.length := by omega
    have el : st2[i]? = some st2[i] := List.getElem?_eq_getElem hp'
    have fin : N (((told ⟨st2, e, g, fa, none⟩).take i).map wordD ++ [wordD (if fa = some i then none else some (st2.getD i 0))]) μ' := hN _ _ ⟨rfl, by rw [List.take_add_one, te2 i hi, List.map_append]; rfl⟩
    rw_mod_cast [e0, d3, atI_map, atI_nat (ts_get (fa := fa) (li := li) hi), Option.map_some, tv_1]
    by_cases c : fa = some i
    . rw_mod_cast [decide_eq_true c]
      rw [if_pos c] at fin; exact fin
    . have hh : heard[i]? = some heard[i] := List.getElem?_eq_getElem (by omega)
      have hg' : gs[i]? = some gs[i] := List.getElem?_eq_getElem (by omega)
      rw_mod_cast [decide_eq_false c, atI_map, atI_nat hh, Option.map_some]
      have G := rg _ (List.mem_of_getElem? hh)
      refine lmid_ok (ws := heard[i]) G.n (by have := G.l; show heard[i].length <= 60; rw [this]; show st.length <= 60; omega) fun v hv => ?_
      rw_mod_cast [atI_map, atI_nat hg', Option.map_some]
      obtain ⟨v', hv', ez⟩ := (hnew i _ el).2 c _ _ hh hg'
      have := hv.uniq hv'
      subst this
      rw [if_neg c, getD_at el, ez] at fin; exact fin
  rintro ys μ' ⟨rfl, rfl⟩
  rw [rangeD_length, Int.toNat_natCast, List.take_of_length_le (by omega)]
  refine h18 _ _ ?_
  rw_mod_cast [d2, clkC]
  refine told_ok d2 (by show st2.length <= 7; omega) ?_
  refine dEq_lst (pl_words _) (by decide) ?_
  exact ⟨_, .refl _, q _⟩
end M

set_option synthInstance.maxHeartbeats 4000000
set_option synthInstance.maxSize 100000
set_option maxHeartbeats 4000000
namespace M
open PySem L2
section
variable {P : Program} {w : World} {K : PySem.W.Frag} {mg : Str -> Option Value} {base : Heap} [TabOk K tab]
theorem ok_is_number {f : Addr} {fd : FuncData} (F : Fun K "is_number" "is_number" s_is_number f fd) (B : Blt mg)   : FnOk P w K mg base CX0 1 f fd ["thing"] (lift K dsp_is_number) :=
  F.okB w_is_number sc_is_number rfl fun cdv A outer s H E hr => ⟨_, (qss_one (qs_ret (qe_and (qe_callB (call_isiG2 K) rfl B.isinstance bb_isinstance (qa_cons (qv 0) (qa_cons (qe_bltn (v := .ty "int") rfl B.int bb_int rfl) qa_nil))) (qe_one (qe_not (qe_callB (call_isiG2 K) rfl B.isinstance bb_isinstance (qa_cons (qv 0) (qa_cons (qe_bltn (v := .ty "bool") rfl B.bool bb_bool rfl) qa_nil)))))))), fun _ => by infer_instance⟩
theorem ok_Clocks_told {f : Addr} {fd : FuncData} (F : Fun K "told" "Clocks.told" s_Clocks_told f fd) (B : Blt mg)   : FnOk P w K mg base CX0 1 f fd ["self"] (lift K dsp_Clocks_told) :=
  F.okB w_Clocks_told sc_Clocks_told rfl fun cdv A outer s H E hr => ⟨_, (qss_one (qs_ret (qe_comp ["at", "stand"] ["self"] [0] (.of rfl (by decide +kernel) rfl) rfl rfl (by decide +kernel) (qi_enumK K rfl B.enumerate (qa_cons (qe_fldK K (qv 0)) qa_nil)) (fun _ _ _ _ => (qg_tupK (n := 2) K rfl (qgs_cons (qg_name (i := 0) (show List.Nodup (["at", "stand", "self"] : List Str) by decide +kernel) rfl (Or.inl rfl)) (qgs_cons (qg_name (i := 1) (show List.Nodup (["at", "stand", "self"] : List Str) by decide +kernel) rfl (Or.inl rfl)) qgs_nil)))) (fun _ _ _ _ => qts_nil) (fun _ _ _ _ => (qe_ifExp (qt_cmpR (op_inG K hr) (qv 0) (qe_tup (qa_cons (qe_fldK K (qv 2)) (qa_cons (qe_fldK K (qv 2)) qa_nil))) (by with_unfolding_all rfl)) qe_non (qv 1)))))), fun _ => by infer_instance⟩
theorem ok_Clocks_check_length {f : Addr} {fd : FuncData} (F : Fun K "check_length" "Clocks.check_length" s_Clocks_check_length f fd) (B : Blt mg)   : FnOk P w K mg base CX0 1 f fd ["self", "row"] (lift K dsp_Clocks_check_length) :=
  F.okB w_Clocks_check_length sc_Clocks_check_length rfl fun cdv A outer s H E hr => ⟨_, (qss_one (qs_if (qt_cmpR (op_neG K hr) (qe_callB (call_lenG K) rfl B.len bb_len (qa_cons (qv 1) qa_nil)) (qe_callB (call_lenG K) rfl B.len bb_len (qa_cons (qe_fldK K (qv 0)) qa_nil)) (nomark _))
    (qss_one qs_never)
    qss_nil)), fun _ => by infer_instance⟩
theorem ok_Clocks_check_lengthX {f : Addr} {fd : FuncData} (F : Fun K "check_length" "Clocks.check_length" s_Clocks_check_length f fd) (B : Blt mg)  {a_BadNumber : Addr} (c_BadNumber : mg "BadNumber" = some (.ref a_BadNumber)) [IsCls K "BadNumber" a_BadNumber] (x_BadNumber : W.excIn K a_BadNumber bmV newV = true) : FnOk P w K mg base (CX1 P w) 1 f fd ["self", "row"] (liftX K dsp_Clocks_check_lengthX) :=
  F.okX w_Clocks_check_lengthX sc_Clocks_check_length rfl fun cdv A outer s H E hr => ⟨_, (qss_one (qs_if (qt_cmpR (op_neG K hr) (qe_callB (call_lenG K) rfl B.len bb_len (qa_cons (qv 1) qa_nil)) (qe_callB (call_lenG K) rfl B.len bb_len (qa_cons (qe_fldK K (qv 0)) qa_nil)) (nomark _))
    (qss_one (qs_raise xmk_cx c_BadNumber x_BadNumber (qa_cons qe_str qa_nil)))
    qss_nil)), fun _ _ _ => by infer_instance⟩
theorem ok_check_count {f : Addr} {fd : FuncData} (F : Fun K "check_count" "check_count" s_check_count f fd) (B : Blt mg) {u_LEAST_CLOCKS : Value} (c_LEAST_CLOCKS : mg "LEAST_CLOCKS" = some u_LEAST_CLOCKS) (c_LEAST_CLOCKS_r : RelV (.int 4) u_LEAST_CLOCKS) {u_MOST_CLOCKS : Value} (c_MOST_CLOCKS : mg "MOST_CLOCKS" = some u_MOST_CLOCKS) (c_MOST_CLOCKS_r : RelV (.int 7) u_MOST_CLOCKS)  : FnOk P w K mg base CX0 1 f fd ["stands"] (lift K dsp_check_count) :=
  F.okB w_check_count sc_check_count rfl fun cdv A outer s H E hr => ⟨_, (qss_cons (qs_if (qt_cmpR op_lt (qe_callB (call_lenG K) rfl B.len bb_len (qa_cons (qv 0) qa_nil)) (qe_glob rfl c_LEAST_CLOCKS c_LEAST_CLOCKS_r) (nomark _))
    (qss_one qs_never)
    qss_nil)
    (qss_one (qs_if (qt_cmpR op_gt (qe_callB (call_lenG K) rfl B.len bb_len (qa_cons (qv 0) qa_nil)) (qe_glob rfl c_MOST_CLOCKS c_MOST_CLOCKS_r) (nomark _))
    (qss_one qs_never)
    qss_nil))), fun _ => by infer_instance⟩
theorem ok_law_middle {f : Addr} {fd : FuncData} (F : Fun K "_law_middle" "_law_middle" s_law_middle f fd) (B : Blt mg)   : FnOk P w K mg base CX0 1 f fd ["_law_words"] (lift K dsp_law_middle) :=
  F.okB w_law_middle sc_law_middle rfl fun cdv A outer s H E hr => ⟨_, (qss_cons (qs_set (i := 1) sc_law_middle.nd rfl (Or.inl rfl) (qe_slice (sl_seqK K) (qe_callB (call_sortedG K) rfl B.sorted bb_sorted (qa_cons (qe_comp ["_law_word"] [] [] (.of rfl (by decide +kernel) rfl) rfl rfl (by decide +kernel) (qi_seqK K (qv 0)) (fun _ _ _ _ => (qg_name (i := 0) (show List.Nodup (["_law_word"] : List Str) by decide +kernel) rfl (Or.inl rfl))) (fun _ _ _ _ => (qts_one (qt_cmpR op_notNG (qv 0) qe_non (nomark _)))) (fun _ _ _ _ => (qv 0))) qa_nil)) (qo_some qe_int) (qo_some (qe_un un_neg qe_int))))
    (qss_one (qs_ret (qe_op op_fdivB (qe_op (op_addG K) (qe_ix (ix_seqK K) (qv 1) qe_int (fun _ _ => rfl)) (qe_ix (ix_seqK K) (qv 1) (qe_un un_neg qe_int) (fun _ _ => rfl))) qe_int)))), fun _ => by infer_instance⟩
theorem ok_law_kinds_one {f : Addr} {fd : FuncData} (F : Fun K "_law_kinds_one" "_law_kinds_one" s_law_kinds_one f fd) (B : Blt mg)  {a_BadName : Addr} (c_BadName : mg "BadName" = some (.ref a_BadName)) [IsCls K "BadName" a_BadName] {a_BadNumber : Addr} (c_BadNumber : mg "BadNumber" = some (.ref a_BadNumber)) [IsCls K "BadNumber" a_BadNumber] {a_BadWay : Addr} (c_BadWay : mg "BadWay" = some (.ref a_BadWay)) [IsCls K "BadWay" a_BadWay] {a_BadEnds : Addr} (c_BadEnds : mg "BadEnds" = some (.ref a_BadEnds)) [IsCls K "BadEnds" a_BadEnds] {a_BadLine : Addr} (c_BadLine : mg "BadLine" = some (.ref a_BadLine)) [IsCls K "BadLine" a_BadLine] {a_Taken : Addr} (c_Taken : mg "Taken" = some (.ref a_Taken)) [IsCls K "Taken" a_Taken] {a_NoName : Addr} (c_NoName : mg "NoName" = some (.ref a_NoName)) [IsCls K "NoName" a_NoName] {a_InUse : Addr} (c_InUse : mg "InUse" = some (.ref a_InUse)) [IsCls K "InUse" a_InUse] {a_Full : Addr} (c_Full : mg "Full" = some (.ref a_Full)) [IsCls K "Full" a_Full] (z_ValueError : mg "ValueError" = none) [ETab K excEs excPs excKs excHs] : FnOk P w K mg base CX0 1 f fd ["_law_e"] (lift K dsp_law_kinds_one) false :=
  F.okU w_law_kinds_one sc_law_kinds_one rfl fun cdv A outer s H E hr => ⟨_, (qss_cons (qs_asgThaw (qs_set (i := 1) sc_law_kinds_one.nd rfl (Or.inl rfl) (qe_lst qa_nil)))
    (qss_cons (qs_if (qt_val (qe_callB (call_isiE K) rfl B.isinstance bb_isinstance (qa_cons (qv 0) (qa_cons (qe_glob (v := .ref a_BadName) rfl c_BadName rfl) qa_nil))))
    (qss_one (qs_expr (qe_bmK K PySem.F.plainAttrs_list PySem.F.slot_list_append PySem.F.type_list_append mt_append (qv 1) (qa_cons qe_str qa_nil))))
    qss_nil)
    (qss_cons (qs_if (qt_val (qe_callB (call_isiE K) rfl B.isinstance bb_isinstance (qa_cons (qv 0) (qa_cons (qe_glob (v := .ref a_BadNumber) rfl c_BadNumber rfl) qa_nil))))
    (qss_one (qs_expr (qe_bmK K PySem.F.plainAttrs_list PySem.F.slot_list_append PySem.F.type_list_append mt_append (qv 1) (qa_cons qe_str qa_nil))))
    qss_nil)
    (qss_cons (qs_if (qt_val (qe_callB (call_isiE K) rfl B.isinstance bb_isinstance (qa_cons (qv 0) (qa_cons (qe_glob (v := .ref a_BadWay) rfl c_BadWay rfl) qa_nil))))
    (qss_one (qs_expr (qe_bmK K PySem.F.plainAttrs_list PySem.F.slot_list_append PySem.F.type_list_append mt_append (qv 1) (qa_cons qe_str qa_nil))))
    qss_nil)
    (qss_cons (qs_if (qt_val (qe_callB (call_isiE K) rfl B.isinstance bb_isinstance (qa_cons (qv 0) (qa_cons (qe_glob (v := .ref a_BadEnds) rfl c_BadEnds rfl) qa_nil))))
    (qss_one (qs_expr (qe_bmK K PySem.F.plainAttrs_list PySem.F.slot_list_append PySem.F.type_list_append mt_append (qv 1) (qa_cons qe_str qa_nil))))
    qss_nil)
    (qss_cons (qs_if (qt_val (qe_callB (call_isiE K) rfl B.isinstance bb_isinstance (qa_cons (qv 0) (qa_cons (qe_glob (v := .ref a_BadLine) rfl c_BadLine rfl) qa_nil))))
    (qss_one (qs_expr (qe_bmK K PySem.F.plainAttrs_list PySem.F.slot_list_append PySem.F.type_list_append mt_append (qv 1) (qa_cons qe_str qa_nil))))
    qss_nil)
    (qss_cons (qs_if (qt_val (qe_callB (call_isiE K) rfl B.isinstance bb_isinstance (qa_cons (qv 0) (qa_cons (qe_glob (v := .ref a_Taken) rfl c_Taken rfl) qa_nil))))
    (qss_one (qs_expr (qe_bmK K PySem.F.plainAttrs_list PySem.F.slot_list_append PySem.F.type_list_append mt_append (qv 1) (qa_cons qe_str qa_nil))))
    qss_nil)
    (qss_cons (qs_if (qt_val (qe_callB (call_isiE K) rfl B.isinstance bb_isinstance (qa_cons (qv 0) (qa_cons (qe_glob (v := .ref a_NoName) rfl c_NoName rfl) qa_nil))))
    (qss_one (qs_expr (qe_bmK K PySem.F.plainAttrs_list PySem.F.slot_list_append PySem.F.type_list_append mt_append (qv 1) (qa_cons qe_str qa_nil))))
    qss_nil)
    (qss_cons (qs_if (qt_val (qe_callB (call_isiE K) rfl B.isinstance bb_isinstance (qa_cons (qv 0) (qa_cons (qe_glob (v := .ref a_InUse) rfl c_InUse rfl) qa_nil))))
    (qss_one (qs_expr (qe_bmK K PySem.F.plainAttrs_list PySem.F.slot_list_append PySem.F.type_list_append mt_append (qv 1) (qa_cons qe_str qa_nil))))
    qss_nil)
    (qss_cons (qs_if (qt_val (qe_callB (call_isiE K) rfl B.isinstance bb_isinstance (qa_cons (qv 0) (qa_cons (qe_glob (v := .ref a_Full) rfl c_Full rfl) qa_nil))))
    (qss_one (qs_expr (qe_bmK K PySem.F.plainAttrs_list PySem.F.slot_list_append PySem.F.type_list_append mt_append (qv 1) (qa_cons qe_str qa_nil))))
    qss_nil)
    (qss_freeze 1 (qss_one (qs_ret (qv 1)))))))))))))), fun _ => by infer_instance⟩
theorem ok_law_kinds_two {f : Addr} {fd : FuncData} (F : Fun K "_law_kinds_two" "_law_kinds_two" s_law_kinds_two f fd) (B : Blt mg)  {a_Tight : Addr} (c_Tight : mg "Tight" = some (.ref a_Tight)) [IsCls K "Tight" a_Tight] {a_Late : Addr} (c_Late : mg "Late" = some (.ref a_Late)) [IsCls K "Late" a_Late] {a_Heavy : Addr} (c_Heavy : mg "Heavy" = some (.ref a_Heavy)) [IsCls K "Heavy" a_Heavy] {a_NoPlan : Addr} (c_NoPlan : mg "NoPlan" = some (.ref a_NoPlan)) [IsCls K "NoPlan" a_NoPlan] {a_NoRoom : Addr} (c_NoRoom : mg "NoRoom" = some (.ref a_NoRoom)) [IsCls K "NoRoom" a_NoRoom] {a_NoStep : Addr} (c_NoStep : mg "NoStep" = some (.ref a_NoStep)) [IsCls K "NoStep" a_NoStep] {a_TooFew : Addr} (c_TooFew : mg "TooFew" = some (.ref a_TooFew)) [IsCls K "TooFew" a_TooFew] {a_BadPage : Addr} (c_BadPage : mg "BadPage" = some (.ref a_BadPage)) [IsCls K "BadPage" a_BadPage] (z_ValueError : mg "ValueError" = none) [ETab K excEs excPs excKs excHs] : FnOk P w K mg base CX0 1 f fd ["_law_e"] (lift K dsp_law_kinds_two) false :=
  F.okU w_law_kinds_two sc_law_kinds_two rfl fun cdv A outer s H E hr => ⟨_, (qss_cons (qs_asgThaw (qs_set (i := 1) sc_law_kinds_two.nd rfl (Or.inl rfl) (qe_lst qa_nil)))
    (qss_cons (qs_if (qt_val (qe_callB (call_isiE K) rfl B.isinstance bb_isinstance (qa_cons (qv 0) (qa_cons (qe_glob (v := .ref a_Tight) rfl c_Tight rfl) qa_nil))))
    (qss_one (qs_expr (qe_bmK K PySem.F.plainAttrs_list PySem.F.slot_list_append PySem.F.type_list_append mt_append (qv 1) (qa_cons qe_str qa_nil))))
    qss_nil)
    (qss_cons (qs_if (qt_val (qe_callB (call_isiE K) rfl B.isinstance bb_isinstance (qa_cons (qv 0) (qa_cons (qe_glob (v := .ref a_Late) rfl c_Late rfl) qa_nil))))
    (qss_one (qs_expr (qe_bmK K PySem.F.plainAttrs_list PySem.F.slot_list_append PySem.F.type_list_append mt_append (qv 1) (qa_cons qe_str qa_nil))))
    qss_nil)
    (qss_cons (qs_if (qt_val (qe_callB (call_isiE K) rfl B.isinstance bb_isinstance (qa_cons (qv 0) (qa_cons (qe_glob (v := .ref a_Heavy) rfl c_Heavy rfl) qa_nil))))
    (qss_one (qs_expr (qe_bmK K PySem.F.plainAttrs_list PySem.F.slot_list_append PySem.F.type_list_append mt_append (qv 1) (qa_cons qe_str qa_nil))))
    qss_nil)
    (qss_cons (qs_if (qt_val (qe_callB (call_isiE K) rfl B.isinstance bb_isinstance (qa_cons (qv 0) (qa_cons (qe_glob (v := .ref a_NoPlan) rfl c_NoPlan rfl) qa_nil))))
    (qss_one (qs_expr (qe_bmK K PySem.F.plainAttrs_list PySem.F.slot_list_append PySem.F.type_list_append mt_append (qv 1) (qa_cons qe_str qa_nil))))
    qss_nil)
    (qss_cons (qs_if (qt_val (qe_callB (call_isiE K) rfl B.isinstance bb_isinstance (qa_cons (qv 0) (qa_cons (qe_glob (v := .ref a_NoRoom) rfl c_NoRoom rfl) qa_nil))))
    (qss_one (qs_expr (qe_bmK K PySem.F.plainAttrs_list PySem.F.slot_list_append PySem.F.type_list_append mt_append (qv 1) (qa_cons qe_str qa_nil))))
    qss_nil)
    (qss_cons (qs_if (qt_val (qe_callB (call_isiE K) rfl B.isinstance bb_isinstance (qa_cons (qv 0) (qa_cons (qe_glob (v := .ref a_NoStep) rfl c_NoStep rfl) qa_nil))))
    (qss_one (qs_expr (qe_bmK K PySem.F.plainAttrs_list PySem.F.slot_list_append PySem.F.type_list_append mt_append (qv 1) (qa_cons qe_str qa_nil))))
    qss_nil)
    (qss_cons (qs_if (qt_val (qe_callB (call_isiE K) rfl B.isinstance bb_isinstance (qa_cons (qv 0) (qa_cons (qe_glob (v := .ref a_TooFew) rfl c_TooFew rfl) qa_nil))))
    (qss_one (qs_expr (qe_bmK K PySem.F.plainAttrs_list PySem.F.slot_list_append PySem.F.type_list_append mt_append (qv 1) (qa_cons qe_str qa_nil))))
    qss_nil)
    (qss_cons (qs_if (qt_val (qe_callB (call_isiE K) rfl B.isinstance bb_isinstance (qa_cons (qv 0) (qa_cons (qe_glob (v := .ref a_BadPage) rfl c_BadPage rfl) qa_nil))))
    (qss_one (qs_expr (qe_bmK K PySem.F.plainAttrs_list PySem.F.slot_list_append PySem.F.type_list_append mt_append (qv 1) (qa_cons qe_str qa_nil))))
    qss_nil)
    (qss_freeze 1 (qss_one (qs_ret (qv 1))))))))))))), fun _ => by infer_instance⟩
theorem ok_check_whole {f : Addr} {fd : FuncData} (F : Fun K "check_whole" "check_whole" s_check_whole f fd) (B : Blt mg) (h_is_number : Has P w K mg base CX0 "is_number" 1 ["thing"] (lift K dsp_is_number))  : FnOk P w K mg base CX0 2 f fd ["thing"] (lift K dsp_check_whole) :=
  F.okB w_check_whole sc_check_whole rfl fun cdv A outer s H E hr => ⟨_, (qss_one (qs_if (qt_not (qt_val (qe_callH h_is_number hr (qa_cons (qv 0) qa_nil))))
    (qss_one qs_never)
    qss_nil)), fun _ => by infer_instance⟩
theorem ok_check_wholeX {f : Addr} {fd : FuncData} (F : Fun K "check_whole" "check_whole" s_check_whole f fd) (B : Blt mg) (h_is_number : Has P w K mg base CX0 "is_number" 1 ["thing"] (lift K dsp_is_number)) {a_BadNumber : Addr} (c_BadNumber : mg "BadNumber" = some (.ref a_BadNumber)) [IsCls K "BadNumber" a_BadNumber] (x_BadNumber : W.excIn K a_BadNumber bmV newV = true) : FnOk P w K mg base (CX1 P w) 2 f fd ["thing"] (liftX K dsp_check_wholeX) :=
  F.okX w_check_wholeX sc_check_whole rfl fun cdv A outer s H E hr => ⟨_, (qss_one (qs_if (qt_not (qt_val (qe_callH h_is_number hr (qa_cons (qv 0) qa_nil))))
    (qss_one (qs_raise xmk_cx c_BadNumber x_BadNumber (qa_cons qe_str qa_nil)))
    qss_nil)), fun _ _ _ => by infer_instance⟩
theorem ok_law_heard {f : Addr} {fd : FuncData} (F : Fun K "_law_heard" "_law_heard" s_law_heard f fd) (B : Blt mg) (h_law_draw : Has P w K mg base CX0 "_law_draw" 1 ["_law_s", "_law_many"] spDrawL)  : FnOk P w K mg base CX0 2 f fd ["_law_s", "_law_stands", "_law_good", "_law_fault", "_law_hears"] (lift K dsp_law_heard) :=
  F.okB w_law_heard sc_law_heard rfl fun cdv A outer s H E hr => ⟨_, (qss_cons (qs_asgThaw (qs_set (i := 5) sc_law_heard.nd rfl (Or.inl rfl) (qe_lst qa_nil)))
    (qss_cons (qs_for PassesOwn.never rfl (qi_range1 rfl B.range (qa_cons (qe_callB (call_lenG K) rfl B.len bb_len (qa_cons (qv 1) qa_nil)) qa_nil)) (qg_name (i := 6) sc_law_heard.nd rfl (Or.inl rfl))
    (qss_one (qs_if (qt_val (qe_ix (ix_seqK K) (qv 2) (qv 6) (fun _ _ => rfl)))
    (qss_one (qs_expr (qe_bmK K PySem.F.plainAttrs_list PySem.F.slot_list_append PySem.F.type_list_append mt_append (qv 5) (qa_cons (qe_op (op_addG K) (qe_ix (ix_seqK K) (qv 1) (qv 6) (fun _ _ => rfl)) (qe_callH h_law_draw hr (qa_cons (qv 0) (qa_cons (qe_op (op_addG K) (qv 3) qe_int) qa_nil)))) qa_nil))))
    (qss_one (qs_if (qt_val (qv 4))
    (qss_one (qs_expr (qe_bmK K PySem.F.plainAttrs_list PySem.F.slot_list_append PySem.F.type_list_append mt_append (qv 5) (qa_cons (qe_ix (ix_seqK K) (qe_lst (qa_cons qe_non (qa_cons qe_int (qa_cons (qe_op op_pow qe_int qe_int) (qa_cons (qe_un un_neg (qe_op op_pow qe_int qe_int)) (qa_cons (qe_op op_sub (qe_callH h_law_draw hr (qa_cons (qv 0) (qa_cons qe_int qa_nil))) qe_int) qa_nil)))))) (qe_callH h_law_draw hr (qa_cons (qv 0) (qa_cons qe_int qa_nil))) (fun _ _ => rfl)) qa_nil))))
    (qss_one (qs_expr (qe_bmK K PySem.F.plainAttrs_list PySem.F.slot_list_append PySem.F.type_list_append mt_append (qv 5) (qa_cons qe_non qa_nil)))))))))
    (qss_freeze 5 (qss_one (qs_ret (qv 5)))))), fun _ => by infer_instance⟩
theorem ok_law_clocks {f : Addr} {fd : FuncData} (F : Fun K "_law_clocks" "_law_clocks" s_law_clocks f fd) (B : Blt mg) (h_law_draw : Has P w K mg base CX0 "_law_draw" 1 ["_law_s", "_law_many"] spDrawL)  : FnOk P w K mg base CX0 2 f fd ["_law_s"] (lift K dsp_law_clocks) :=
  F.okB w_law_clocks sc_law_clocks rfl fun cdv A outer s H E hr => ⟨_, (qss_cons (qs_set (i := 1) sc_law_clocks.nd rfl (Or.inr rfl) (qe_ix (ix_seqK K) (qe_lst (qa_ints [0, 1, 2, 3, 4, 1000] rfl)) (qe_callH h_law_draw hr (qa_cons (qv 0) (qa_cons qe_int qa_nil))) (fun _ _ => rfl)))
    (qss_cons (qs_set (i := 2) sc_law_clocks.nd rfl (Or.inr rfl) (qe_ix (ix_seqK K) (qe_lst (qa_ints [0, 1, 2, 3, 4, 1000] rfl)) (qe_callH h_law_draw hr (qa_cons (qv 0) (qa_cons qe_int qa_nil))) (fun _ _ => rfl)))
    (qss_cons (qs_set (i := 3) sc_law_clocks.nd rfl (Or.inr rfl) (qe_op op_sub (qe_callH h_law_draw hr (qa_cons (qv 0) (qa_cons qe_int qa_nil))) qe_int))
    (qss_cons (qs_setC ["_law_k"] ["_law_base", "_law_fault", "_law_more", "_law_s"] [3, 1, 2, 0] (i := 4) sc_law_clocks.nd rfl rfl (.of rfl (by decide +kernel) rfl) rfl rfl (by decide +kernel) (qi_range1 rfl B.range (qa_cons (qe_op (op_addG K) qe_int (qe_callH h_law_draw hr (qa_cons (qv 0) (qa_cons qe_int qa_nil)))) qa_nil)) (fun _ _ _ _ => (qg_name (i := 0) (show List.Nodup (["_law_k", "_law_base", "_law_fault", "_law_more", "_law_s"] : List Str) by decide +kernel) rfl (Or.inl rfl))) (fun _ _ _ _ => qts_nil) (fun _ _ _ _ => (qe_op (op_addG K) (qv 1) (qe_callH h_law_draw hr (qa_cons (qv 4) (qa_cons (qe_op (op_addG K) (qe_op (op_addG K) (qe_op op_mulG2 qe_int (qv 2)) (qe_op op_mulG2 qe_int (qv 3))) qe_int) qa_nil))))))
    (qss_one (qs_ret (qe_tup (qa_cons (qv 4) (qa_cons (qv 1) (qa_cons (qv 2) qa_nil)))))))))), fun _ => by infer_instance⟩
theorem ok_law_kind {f : Addr} {fd : FuncData} (F : Fun K "_law_kind" "_law_kind" s_law_kind f fd) (B : Blt mg) (u_law_kinds_one : HasU P w K mg base "_law_kinds_one" 1 ["_law_e"] (lift K dsp_law_kinds_one)) (u_law_kinds_two : HasU P w K mg base "_law_kinds_two" 1 ["_law_e"] (lift K dsp_law_kinds_two)) (z_ValueError : mg "ValueError" = none) [ETab K excEs excPs excKs excHs] : FnOk P w K mg base CX0 2 f fd ["_law_e"] (lift K dsp_law_kind) false :=
  F.okU w_law_kind sc_law_kind rfl fun cdv A outer s H E hr => ⟨_, (qss_cons (qs_set (i := 1) sc_law_kind.nd rfl (Or.inl rfl) (qe_op (op_addG K) (qe_callU u_law_kinds_one hr (qa_cons (qv 0) qa_nil)) (qe_callU u_law_kinds_two hr (qa_cons (qv 0) qa_nil))))
    (qss_cons (qs_if (WW.qt (qw_and (qt_cmpR (op_eqG K hr) (qe_callB (call_lenG K) rfl B.len bb_len (qa_cons (qv 1) qa_nil)) qe_int (nomark _)) (qw_and1 (qt_val (qe_callB (call_isiE K) rfl B.isinstance bb_isinstance (qa_cons (qv 0) (qa_cons (qe_bltn (v := .ty "ValueError") rfl z_ValueError bb_ValueError rfl) qa_nil)))))))
    (qss_one (qs_ret (qe_ix (ix_seqK K) (qv 1) qe_int (fun _ _ => rfl))))
    qss_nil)
    (qss_one (qs_ret qe_str)))), fun _ => by infer_instance⟩
theorem ok_law_bend {f : Addr} {fd : FuncData} (F : Fun K "_law_bend" "_law_bend" s_law_bend f fd) (B : Blt mg) (h_law_draw : Has P w K mg base CX0 "_law_draw" 1 ["_law_s", "_law_many"] spDrawL)  : FnOk P w K mg base CX0 2 f fd ["_law_s", "_law_heard_here", "_law_gains", "_law_stands", "_law_state", "_law_fault", "_law_more"] (lift K dsp_law_bend) :=
  F.okB w_law_bend sc_law_bend rfl fun cdv A outer s H E hr => ⟨_, (qss_cons (qs_set (i := 7) sc_law_bend.nd rfl (Or.inl rfl) (qe_callH h_law_draw hr (qa_cons (qv 0) (qa_cons qe_int qa_nil))))
    (qss_cons (qs_setC ["_law_at"] ["_law_state"] [4] (i := 8) sc_law_bend.nd rfl rfl (.of rfl (by decide +kernel) rfl) rfl rfl (by decide +kernel) (qi_range1 rfl B.range (qa_cons (qe_callB (call_lenG K) rfl B.len bb_len (qa_cons (qv 4) qa_nil)) qa_nil)) (fun _ _ _ _ => (qg_name (i := 0) (show List.Nodup (["_law_at", "_law_state"] : List Str) by decide +kernel) rfl (Or.inl rfl))) (fun _ _ _ _ => (qts_one (qt_cmpR (op_neG K hr) (qe_ix (ix_seqK K) (qv 1) (qv 0) (fun _ _ => rfl)) qe_int (nomark _)))) (fun _ _ _ _ => (qv 0)))
    (qss_cons (qs_set (i := 9) sc_law_bend.nd rfl (Or.inl rfl) (qe_ix (ix_seqK K) (qv 8) (qe_callH h_law_draw hr (qa_cons (qv 0) (qa_cons (qe_callB (call_lenG K) rfl B.len bb_len (qa_cons (qv 8) qa_nil)) qa_nil))) (fun _ _ => rfl)))
    (qss_cons (qs_setC ["_law_one"] ["_law_state"] [4] (i := 10) sc_law_bend.nd rfl rfl (.of rfl (by decide +kernel) rfl) rfl rfl (by decide +kernel) (qi_range1 rfl B.range (qa_cons (qe_callB (call_lenG K) rfl B.len bb_len (qa_cons (qv 4) qa_nil)) qa_nil)) (fun _ _ _ _ => (qg_name (i := 0) (show List.Nodup (["_law_one", "_law_state"] : List Str) by decide +kernel) rfl (Or.inl rfl))) (fun _ _ _ _ => (qts_one (qt_cmpR (op_eqG K hr) (qe_ix (ix_seqK K) (qv 1) (qv 0) (fun _ _ => rfl)) qe_int (nomark _)))) (fun _ _ _ _ => (qv 0)))
    (qss_cons (qs_set (i := 11) sc_law_bend.nd rfl (Or.inl rfl) (qe_ix (ix_seqK K) (qv 10) (qe_callH h_law_draw hr (qa_cons (qv 0) (qa_cons (qe_callB (call_lenG K) rfl B.len bb_len (qa_cons (qv 10) qa_nil)) qa_nil))) (fun _ _ => rfl)))
    (qss_one (qs_if (qt_cmpR (op_eqG K hr) (qv 7) qe_int (nomark _))
    (qss_one (qs_asg (qe_op (op_addG K) (qe_op (op_addG K) (qe_ix (ix_seqK K) (qv 3) (qv 11) (fun _ _ => rfl)) (qv 5)) qe_int) (qg_sub (qe_ix (ix_seqK K) (qv 1) (qv 9) (fun _ _ => rfl)) (qv 11) set_list)))
    (qss_one (qs_if (qt_cmpR (op_eqG K hr) (qv 7) qe_int (nomark _))
    (qss_one (qs_asg (qe_op op_sub (qe_ix (ix_seqK K) (qv 3) (qv 11) (fun _ _ => rfl)) qe_int) (qg_sub (qe_ix (ix_seqK K) (qv 1) (qv 9) (fun _ _ => rfl)) (qv 11) set_list)))
    (qss_one (qs_if (qt_cmpR (op_eqG K hr) (qv 7) qe_int (nomark _))
    (qss_one (qs_asg qe_non (qg_sub (qe_ix (ix_seqK K) (qv 1) (qv 9) (fun _ _ => rfl)) (qv 11) set_list)))
    (qss_one (qs_if (qt_cmpR (op_eqG K hr) (qv 7) qe_int (nomark _))
    (qss_one (qs_asg (qe_ix (ix_seqK K) (qe_lst (qa_cons (qe_op (op_addG K) (qv 6) qe_int) (qa_cons (qe_un un_neg qe_int) (qa_cons qe_bl qa_nil)))) (qe_callH h_law_draw hr (qa_cons (qv 0) (qa_cons qe_int qa_nil))) (fun _ _ => rfl)) (qg_sub (qv 2) (qv 9) set_list)))
    (qss_one (qs_if (qt_cmpR (op_eqG K hr) (qv 7) qe_int (nomark _))
    (qss_one (qs_expr (qe_bmK K PySem.F.plainAttrs_list PySem.F.slot_list_append PySem.F.type_list_append mt_append (qe_ix (ix_seqK K) (qv 1) (qv 9) (fun _ _ => rfl)) (qa_cons (qe_ix (ix_seqK K) (qv 3) (qv 11) (fun _ _ => rfl)) qa_nil))))
    (qss_one (qs_if (qt_cmpR (op_eqG K hr) (qv 7) qe_int (nomark _))
    (qss_one (qs_expr (qe_bm0K K PySem.F.plainAttrs_list PySem.F.slot_list_pop PySem.F.type_list_pop mt_popG (qe_ix (ix_seqK K) (qv 1) (qv 9) (fun _ _ => rfl)))))
    (qss_one (qs_if (qt_cmpR (op_eqG K hr) (qv 7) qe_int (nomark _))
    (qss_one (qs_expr (qe_bm0K K PySem.F.plainAttrs_list PySem.F.slot_list_pop PySem.F.type_list_pop mt_popG (qv 2))))
    (qss_one (qs_if (qt_cmpR (op_eqG K hr) (qv 7) qe_int (nomark _))
    (qss_one (qs_expr (qe_bmK K PySem.F.plainAttrs_list PySem.F.slot_list_append PySem.F.type_list_append mt_append (qv 1) (qa_cons (qe_callTy (call_listG K) rfl B.list bb_list (qa_cons (qe_ix (ix_seqK K) (qv 1) (qv 9) (fun _ _ => rfl)) qa_nil)) qa_nil))))
    (qss_cons (qs_setC ["_law_one"] ["_law_state"] [4] (i := 12) sc_law_bend.nd rfl rfl (.of rfl (by decide +kernel) rfl) rfl rfl (by decide +kernel) (qi_range1 rfl B.range (qa_cons (qe_callB (call_lenG K) rfl B.len bb_len (qa_cons (qv 4) qa_nil)) qa_nil)) (fun _ _ _ _ => (qg_name (i := 0) (show List.Nodup (["_law_one", "_law_state"] : List Str) by decide +kernel) rfl (Or.inl rfl))) (fun _ _ _ _ => (qts_one (qt_cmpR (op_eqG K hr) (qe_ix (ix_seqK K) (qv 1) (qv 0) (fun _ _ => rfl)) qe_int (nomark _)))) (fun _ _ _ _ => (qv 0)))
    (qss_one (qs_if (qt_cmpR op_gt (qe_callB (call_lenG K) rfl B.len bb_len (qa_cons (qv 12) qa_nil)) qe_int (nomark _))
    (qss_one (qs_asg (qe_ix (ix_seqK K) (qv 3) (qv 11) (fun _ _ => rfl)) (qg_sub (qe_ix (ix_seqK K) (qv 1) (qv 9) (fun _ _ => rfl)) (qe_ix (ix_seqK K) (qv 12) qe_int (fun _ _ => rfl)) set_list)))
    (qss_one (qs_asg qe_bl (qg_sub (qe_ix (ix_seqK K) (qv 1) (qv 9) (fun _ _ => rfl)) (qv 11) set_list))))))))))))))))))))))))))), fun _ => by infer_instance⟩
theorem ok_check_number {f : Addr} {fd : FuncData} (F : Fun K "check_number" "check_number" s_check_number f fd) (B : Blt mg) (h_check_whole : Has P w K mg base CX0 "check_whole" 2 ["thing"] (lift K dsp_check_whole))  : FnOk P w K mg base CX0 3 f fd ["number", "least", "most"] (lift K dsp_check_number) :=
  F.okB w_check_number sc_check_number rfl fun cdv A outer s H E hr => ⟨_, (qss_cons (qs_expr (qe_callH h_check_whole hr (qa_cons (qv 0) qa_nil)))
    (qss_one (qs_if (qt_not (qt_chain op_le op_le (qv 1) (qv 0) (qv 2)))
    (qss_one qs_never)
    qss_nil))), fun _ => by infer_instance⟩
theorem ok_check_numberX {f : Addr} {fd : FuncData} (F : Fun K "check_number" "check_number" s_check_number f fd) (B : Blt mg) (hK_check_wholeX_1 : HasK P w K mg base (CX1 P w) "check_whole" 2 ["thing"] (liftX K dsp_check_wholeX) [] (sel 1 0 [.p 0] .non [])) {a_BadNumber : Addr} (c_BadNumber : mg "BadNumber" = some (.ref a_BadNumber)) [IsCls K "BadNumber" a_BadNumber] (x_BadNumber : W.excIn K a_BadNumber bmV newV = true) : FnOk P w K mg base (CX1 P w) 3 f fd ["number", "least", "most"] (liftX K dsp_check_numberX) :=
  F.okX w_check_numberX sc_check_number rfl fun cdv A outer s H E hr => ⟨_, (qss_cons (qs_expr (qe_callX hK_check_wholeX_1 hr xok_cx (qa_cons (qv 0) qa_nil) qk_nil))
    (qss_one (qs_if (qt_not (qt_chain op_le op_le (qv 1) (qv 0) (qv 2)))
    (qss_one (qs_raise xmk_cx c_BadNumber x_BadNumber (qa_cons qe_str qa_nil)))
    qss_nil))), fun _ _ _ => by infer_instance⟩
theorem ok_middle {f : Addr} {fd : FuncData} (F : Fun K "middle" "middle" s_middle f fd) (B : Blt mg) (h_check_whole : Has P w K mg base CX0 "check_whole" 2 ["thing"] (lift K dsp_check_whole)) {u_LEAST_NUMBERS : Value} (c_LEAST_NUMBERS : mg "LEAST_NUMBERS" = some u_LEAST_NUMBERS) (c_LEAST_NUMBERS_r : RelV (.int 3) u_LEAST_NUMBERS)  : FnOk P w K mg base CX0 3 f fd ["numbers"] (lift K dsp_middle) :=
  F.okB w_middle sc_middle rfl fun cdv A outer s H E hr => ⟨_, (qss_cons (qs_if (qt_cmpR op_lt (qe_callB (call_lenG K) rfl B.len bb_len (qa_cons (qv 0) qa_nil)) (qe_glob rfl c_LEAST_NUMBERS c_LEAST_NUMBERS_r) (nomark _))
    (qss_one qs_never)
    qss_nil)
    (qss_cons (qs_for PassesOwn.never rfl (qi_seqK K (qv 0)) (qg_name (i := 1) sc_middle.nd rfl (Or.inl rfl))
    (qss_one (qs_expr (qe_callH h_check_whole hr (qa_cons (qv 1) qa_nil)))))
    (qss_cons (qs_set (i := 2) sc_middle.nd rfl (Or.inl rfl) (qe_slice (sl_seqK K) (qe_callB (call_sortedG K) rfl B.sorted bb_sorted (qa_cons (qv 0) qa_nil)) (qo_some qe_int) (qo_some (qe_un un_neg qe_int))))
    (qss_one (qs_ret (qe_op op_fdivB (qe_op (op_addG K) (qe_ix (ix_seqK K) (qv 2) qe_int (fun _ _ => rfl)) (qe_ix (ix_seqK K) (qv 2) (qe_un un_neg qe_int) (fun _ _ => rfl))) qe_int)))))), fun _ => by infer_instance⟩
theorem ok_middleX {f : Addr} {fd : FuncData} (F : Fun K "middle" "middle" s_middle f fd) (B : Blt mg) (hK_check_wholeX_1 : HasK P w K mg base (CX1 P w) "check_whole" 2 ["thing"] (liftX K dsp_check_wholeX) [] (sel 1 0 [.p 0] .non [])) {u_LEAST_NUMBERS : Value} (c_LEAST_NUMBERS : mg "LEAST_NUMBERS" = some u_LEAST_NUMBERS) (c_LEAST_NUMBERS_r : RelV (.int 3) u_LEAST_NUMBERS) {a_TooFew : Addr} (c_TooFew : mg "TooFew" = some (.ref a_TooFew)) [IsCls K "TooFew" a_TooFew] (x_TooFew : W.excIn K a_TooFew bmV newV = true) : FnOk P w K mg base (CX1 P w) 3 f fd ["numbers"] (liftX K dsp_middleX) :=
  F.okX w_middleX sc_middle rfl fun cdv A outer s H E hr => ⟨_, (qss_cons (qs_if (qt_cmpR op_lt (qe_callB (call_lenG K) rfl B.len bb_len (qa_cons (qv 0) qa_nil)) (qe_glob rfl c_LEAST_NUMBERS c_LEAST_NUMBERS_r) (nomark _))
    (qss_one (qs_raise xmk_cx c_TooFew x_TooFew (qa_cons qe_str qa_nil)))
    qss_nil)
    (qss_cons (qs_for po_cx rfl (qi_seqK K (qv 0)) (qg_name (i := 1) sc_middle.nd rfl (Or.inl rfl))
    (qss_one (qs_expr (qe_callX hK_check_wholeX_1 hr xok_cx (qa_cons (qv 1) qa_nil) qk_nil))))
    (qss_cons (qs_set (i := 2) sc_middle.nd rfl (Or.inl rfl) (qe_slice (sl_seqK K) (qe_callB (call_sortedG K) rfl B.sorted bb_sorted (qa_cons (qv 0) qa_nil)) (qo_some qe_int) (qo_some (qe_un un_neg qe_int))))
    (qss_one (qs_ret (qe_op op_fdivB (qe_op (op_addG K) (qe_ix (ix_seqK K) (qv 2) qe_int (fun _ _ => rfl)) (qe_ix (ix_seqK K) (qv 2) (qe_un un_neg qe_int) (fun _ _ => rfl))) qe_int)))))), fun _ _ _ => by infer_instance⟩
theorem ok_slack_of {f : Addr} {fd : FuncData} (F : Fun K "slack_of" "slack_of" s_slack_of f fd) (B : Blt mg) (h_check_whole : Has P w K mg base CX0 "check_whole" 2 ["thing"] (lift K dsp_check_whole))  : FnOk P w K mg base CX0 3 f fd ["err", "gain"] (lift K dsp_slack_of) :=
  F.okB w_slack_of sc_slack_of rfl fun cdv A outer s H E hr => ⟨_, (qss_cons (qs_expr (qe_callH h_check_whole hr (qa_cons (qv 0) qa_nil)))
    (qss_cons (qs_expr (qe_callH h_check_whole hr (qa_cons (qv 1) qa_nil)))
    (qss_one (qs_ret (qe_op (op_addG K) (qe_op op_mulG2 qe_int (qv 0)) (qe_op op_mulG2 qe_int (qv 1))))))), fun _ => by infer_instance⟩
theorem ok_ClocksD_initD {f : Addr} {fd : FuncData} (F : Fun K "__init__" "Clocks.__init__" s_ClocksD_initD f fd) (B : Blt mg) (h_check_count : Has P w K mg base CX0 "check_count" 1 ["stands"] (lift K dsp_check_count)) (h_check_whole : Has P w K mg base CX0 "check_whole" 2 ["thing"] (lift K dsp_check_whole)) (h_check_number : Has P w K mg base CX0 "check_number" 3 ["number", "least", "most"] (lift K dsp_check_number)) (h_slack_of : Has P w K mg base CX0 "slack_of" 3 ["err", "gain"] (lift K dsp_slack_of)) {u_MOST_ERR : Value} (c_MOST_ERR : mg "MOST_ERR" = some u_MOST_ERR) (c_MOST_ERR_r : RelV (.int 1000) u_MOST_ERR)  : FnOk P w K mg base CX0 4 f fd ["self", "stands", "err", "gain"] (lift K dsp_ClocksD_initD) :=
  F.okB w_ClocksD_initD sc_ClocksD_initD rfl fun cdv A outer s H E hr => ⟨_, (qss_cons (qs_expr (qe_callH h_check_count hr (qa_cons (qv 1) qa_nil)))
    (qss_cons (qs_expr (qe_callH h_check_number hr (qa_cons (qv 2) (qa_cons qe_int (qa_cons (qe_glob rfl c_MOST_ERR c_MOST_ERR_r) qa_nil)))))
    (qss_cons (qs_expr (qe_callH h_check_number hr (qa_cons (qv 3) (qa_cons qe_int (qa_cons (qe_glob rfl c_MOST_ERR c_MOST_ERR_r) qa_nil)))))
    (qss_cons (qs_for PassesOwn.never rfl (qi_seqK K (qv 1)) (qg_name (i := 4) sc_ClocksD_initD.nd rfl (Or.inl rfl))
    (qss_one (qs_expr (qe_callH h_check_whole hr (qa_cons (qv 4) qa_nil)))))
    (qss_cons (qs_if (qt_cmpR op_gt (qe_op op_sub (qe_callB (call_maxG K) rfl B.max bb_max (qa_cons (qv 1) qa_nil)) (qe_callB (call_minG K) rfl B.min bb_min (qa_cons (qv 1) qa_nil))) (qe_callH h_slack_of hr (qa_cons (qv 2) (qa_cons (qv 3) qa_nil))) (nomark _))
    (qss_one qs_never)
    qss_nil)
    (qss_cons (qs_fldK K (qv 0) (qe_callTy (call_listG K) rfl B.list bb_list (qa_cons (qv 1) qa_nil)))
    (qss_cons (qs_fldK K (qv 0) (qv 2))
    (qss_cons (qs_fldK K (qv 0) (qv 3))
    (qss_cons (qs_fldK K (qv 0) qe_non)
    (qss_one (qs_fldK K (qv 0) qe_non))))))))))), fun _ => by infer_instance⟩
theorem ok_Clocks_check_place {f : Addr} {fd : FuncData} (F : Fun K "check_place" "Clocks.check_place" s_Clocks_check_place f fd) (B : Blt mg) (h_check_number : Has P w K mg base CX0 "check_number" 3 ["number", "least", "most"] (lift K dsp_check_number))  : FnOk P w K mg base CX0 4 f fd ["self", "at"] (lift K dsp_Clocks_check_place) :=
  F.okB w_Clocks_check_place sc_Clocks_check_place rfl fun cdv A outer s H E hr => ⟨_, (qss_one (qs_expr (qe_callH h_check_number hr (qa_cons (qv 1) (qa_cons qe_int (qa_cons (qe_op op_sub (qe_callB (call_lenG K) rfl B.len bb_len (qa_cons (qe_fldK K (qv 0)) qa_nil)) qe_int) qa_nil)))))), fun _ => by infer_instance⟩
theorem ok_Clocks_check_word {f : Addr} {fd : FuncData} (F : Fun K "check_word" "Clocks.check_word" s_Clocks_check_word f fd) (B : Blt mg) (h_check_whole : Has P w K mg base CX0 "check_whole" 2 ["thing"] (lift K dsp_check_whole)) (h_check_number : Has P w K mg base CX0 "check_number" 3 ["number", "least", "most"] (lift K dsp_check_number))  : FnOk P w K mg base CX0 4 f fd ["self", "place", "word"] (lift K dsp_Clocks_check_word) :=
  F.okB w_Clocks_check_word sc_Clocks_check_word rfl fun cdv A outer s H E hr => ⟨_, (qss_one (qs_if (qt_cmpR (op_eqG K hr) (qv 1) (qe_fldK K (qv 0)) (nomark _))
    (qss_one (qs_if (qt_cmpR op_notNG (qv 2) qe_non (nomark _))
    (qss_one qs_never)
    qss_nil))
    (qss_one (qs_if (qt_cmpR (op_eqG K hr) (qv 1) (qe_fldK K (qv 0)) (nomark _))
    (qss_one (qs_if (qt_cmpR op_notNG (qv 2) qe_non (nomark _))
    (qss_one (qs_expr (qe_callH h_check_whole hr (qa_cons (qv 2) qa_nil))))
    qss_nil))
    (qss_one (qs_expr (qe_callH h_check_number hr (qa_cons (qv 2) (qa_cons (qe_ix (ix_seqK K) (qe_fldK K (qv 0)) (qv 1) (fun _ _ => rfl)) (qa_cons (qe_op (op_addG K) (qe_ix (ix_seqK K) (qe_fldK K (qv 0)) (qv 1) (fun _ _ => rfl)) (qe_fldK K (qv 0))) qa_nil)))))))))), fun _ => by infer_instance⟩
theorem ok_Clocks_check_wordX {f : Addr} {fd : FuncData} (F : Fun K "check_word" "Clocks.check_word" s_Clocks_check_word f fd) (B : Blt mg) (hK_check_wholeX_1 : HasK P w K mg base (CX1 P w) "check_whole" 2 ["thing"] (liftX K dsp_check_wholeX) [] (sel 1 0 [.p 0] .non [])) (hK_check_numberX_3 : HasK P w K mg base (CX1 P w) "check_number" 3 ["number", "least", "most"] (liftX K dsp_check_numberX) [] (sel 3 0 [.p 0, .p 1, .p 2] .non [])) {a_BadNumber : Addr} (c_BadNumber : mg "BadNumber" = some (.ref a_BadNumber)) [IsCls K "BadNumber" a_BadNumber] (x_BadNumber : W.excIn K a_BadNumber bmV newV = true) : FnOk P w K mg base (CX1 P w) 4 f fd ["self", "place", "word"] (liftX K dsp_Clocks_check_wordX) :=
  F.okX w_Clocks_check_wordX sc_Clocks_check_word rfl fun cdv A outer s H E hr => ⟨_, (qss_one (qs_if (qt_cmpR (op_eqG K hr) (qv 1) (qe_fldK K (qv 0)) (nomark _))
    (qss_one (qs_if (qt_cmpR op_notNG (qv 2) qe_non (nomark _))
    (qss_one (qs_raise xmk_cx c_BadNumber x_BadNumber (qa_cons qe_str qa_nil)))
    qss_nil))
    (qss_one (qs_if (qt_cmpR (op_eqG K hr) (qv 1) (qe_fldK K (qv 0)) (nomark _))
    (qss_one (qs_if (qt_cmpR op_notNG (qv 2) qe_non (nomark _))
    (qss_one (qs_expr (qe_callX hK_check_wholeX_1 hr xok_cx (qa_cons (qv 2) qa_nil) qk_nil)))
    qss_nil))
    (qss_one (qs_expr (qe_callX hK_check_numberX_3 hr xok_cx (qa_cons (qv 2) (qa_cons (qe_ix (ix_seqK K) (qe_fldK K (qv 0)) (qv 1) (fun _ _ => rfl)) (qa_cons (qe_op (op_addG K) (qe_ix (ix_seqK K) (qe_fldK K (qv 0)) (qv 1) (fun _ _ => rfl)) (qe_fldK K (qv 0))) qa_nil))) qk_nil))))))), fun _ _ _ => by infer_instance⟩
theorem ok_Clocks_fall {f : Addr} {fd : FuncData} (F : Fun K "fall" "Clocks.fall" s_Clocks_fall f fd) (B : Blt mg) (hT_Clocks_check_place_2 : HasMt P w K mg base CX0 "Clocks" "check_place" 4 ["self", "at"] (lift K dsp_Clocks_check_place) [] (sel 2 0 [.p 0, .p 1] .non []))  : FnOk P w K mg base CX0 5 f fd ["self", "at"] (lift K dsp_Clocks_fall) :=
  F.okB w_Clocks_fall sc_Clocks_fall rfl fun cdv A outer s H E hr => ⟨_, (qss_cons (qs_expr (qe_methK (pl := _) K hT_Clocks_check_place_2 hr (qv 0) (qa_cons (qv 1) qa_nil) qk_nil))
    (qss_cons (qs_if (WW.qt (qw_or (qt_cmpR op_notNG (qe_fldK K (qv 0)) qe_non (nomark _)) (qw_or1 (qt_cmpR op_notNG (qe_fldK K (qv 0)) qe_non (nomark _)))))
    (qss_one qs_never)
    qss_nil)
    (qss_one (qs_fldK K (qv 0) (qv 1))))), fun _ => by infer_instance⟩
theorem ok_Clocks_rise {f : Addr} {fd : FuncData} (F : Fun K "rise" "Clocks.rise" s_Clocks_rise f fd) (B : Blt mg) (hT_Clocks_check_place_2 : HasMt P w K mg base CX0 "Clocks" "check_place" 4 ["self", "at"] (lift K dsp_Clocks_check_place) [] (sel 2 0 [.p 0, .p 1] .non []))  : FnOk P w K mg base CX0 5 f fd ["self", "at"] (lift K dsp_Clocks_rise) :=
  F.okB w_Clocks_rise sc_Clocks_rise rfl fun cdv A outer s H E hr => ⟨_, (qss_cons (qs_expr (qe_methK (pl := _) K hT_Clocks_check_place_2 hr (qv 0) (qa_cons (qv 1) qa_nil) qk_nil))
    (qss_cons (qs_if (qt_cmpR (op_neG K hr) (qe_fldK K (qv 0)) (qv 1) (nomark _))
    (qss_one qs_never)
    qss_nil)
    (qss_cons (qs_fldK K (qv 0) qe_non)
    (qss_one (qs_fldK K (qv 0) (qv 1)))))), fun _ => by infer_instance⟩
theorem ok_Clocks_stand_behind {f : Addr} {fd : FuncData} (F : Fun K "stand_behind" "Clocks.stand_behind" s_Clocks_stand_behind f fd) (B : Blt mg) (h_check_number : Has P w K mg base CX0 "check_number" 3 ["number", "least", "most"] (lift K dsp_check_number)) (h_middle : Has P w K mg base CX0 "middle" 3 ["numbers"] (lift K dsp_middle)) (hT_Clocks_check_length_2 : HasMt P w K mg base CX0 "Clocks" "check_length" 1 ["self", "row"] (lift K dsp_Clocks_check_length) [] (sel 2 0 [.p 0, .p 1] .non [])) (hT_Clocks_check_word_3 : HasMt P w K mg base CX0 "Clocks" "check_word" 4 ["self", "place", "word"] (lift K dsp_Clocks_check_word) [] (sel 3 0 [.p 0, .p 1, .p 2] .non []))  : FnOk P w K mg base CX0 5 f fd ["self", "at", "row", "gain"] (lift K dsp_Clocks_stand_behind) :=
  F.okB w_Clocks_stand_behind sc_Clocks_stand_behind rfl fun cdv A outer s H E hr => ⟨_, (qss_cons (qs_if (qt_cmpR (op_eqG K hr) (qv 1) (qe_fldK K (qv 0)) (nomark _))
    (qss_one (qs_ret (qe_ix (ix_seqK K) (qe_fldK K (qv 0)) (qv 1) (fun _ _ => rfl))))
    qss_nil)
    (qss_cons (qs_expr (qe_methK (pl := _) K hT_Clocks_check_length_2 hr (qv 0) (qa_cons (qv 2) qa_nil) qk_nil))
    (qss_cons (qs_for PassesOwn.never rfl (qi_enumK K rfl B.enumerate (qa_cons (qv 2) qa_nil)) (qg_tupK (n := 2) K rfl (qgs_cons (qg_name (i := 4) sc_Clocks_stand_behind.nd rfl (Or.inl rfl)) (qgs_cons (qg_name (i := 5) sc_Clocks_stand_behind.nd rfl (Or.inl rfl)) qgs_nil)))
    (qss_one (qs_expr (qe_methK (pl := _) K hT_Clocks_check_word_3 hr (qv 0) (qa_cons (qv 4) (qa_cons (qv 5) qa_nil)) qk_nil))))
    (qss_cons (qs_expr (qe_callH h_check_number hr (qa_cons (qv 3) (qa_cons qe_int (qa_cons (qe_fldK K (qv 0)) qa_nil)))))
    (qss_one (qs_ret (qe_op (op_addG K) (qe_callH h_middle hr (qa_cons (qe_comp ["word"] [] [] (.of rfl (by decide +kernel) rfl) rfl rfl (by decide +kernel) (qi_seqK K (qv 2)) (fun _ _ _ _ => (qg_name (i := 0) (show List.Nodup (["word"] : List Str) by decide +kernel) rfl (Or.inl rfl))) (fun _ _ _ _ => (qts_one (qt_cmpR op_notNG (qv 0) qe_non (nomark _)))) (fun _ _ _ _ => (qv 0))) qa_nil)) (qv 3)))))))), fun _ => by infer_instance⟩
theorem ok_Clocks_stand_behindX {f : Addr} {fd : FuncData} (F : Fun K "stand_behind" "Clocks.stand_behind" s_Clocks_stand_behind f fd) (B : Blt mg) (hT_Clocks_check_lengthX_2 : HasMt P w K mg base (CX1 P w) "Clocks" "check_length" 1 ["self", "row"] (liftX K dsp_Clocks_check_lengthX) [] (sel 2 0 [.p 0, .p 1] .non [])) (hT_Clocks_check_wordX_3 : HasMt P w K mg base (CX1 P w) "Clocks" "check_word" 4 ["self", "place", "word"] (liftX K dsp_Clocks_check_wordX) [] (sel 3 0 [.p 0, .p 1, .p 2] .non [])) (hK_check_numberX_3 : HasK P w K mg base (CX1 P w) "check_number" 3 ["number", "least", "most"] (liftX K dsp_check_numberX) [] (sel 3 0 [.p 0, .p 1, .p 2] .non [])) (hK_middleX_1 : HasK P w K mg base (CX1 P w) "middle" 3 ["numbers"] (liftX K dsp_middleX) [] (sel 1 0 [.p 0] .non []))  : FnOk P w K mg base (CX1 P w) 5 f fd ["self", "at", "row", "gain"] (liftX K dsp_Clocks_stand_behindX) :=
  F.okX w_Clocks_stand_behindX sc_Clocks_stand_behind rfl fun cdv A outer s H E hr => ⟨_, (qss_cons (qs_if (qt_cmpR (op_eqG K hr) (qv 1) (qe_fldK K (qv 0)) (nomark _))
    (qss_one (qs_ret (qe_ix (ix_seqK K) (qe_fldK K (qv 0)) (qv 1) (fun _ _ => rfl))))
    qss_nil)
    (qss_cons (qs_expr (qe_methX (pl := _) K hT_Clocks_check_lengthX_2 hr xok_cx (qv 0) (qa_cons (qv 2) qa_nil) qk_nil))
    (qss_cons (qs_for po_cx rfl (qi_enumK K rfl B.enumerate (qa_cons (qv 2) qa_nil)) (qg_tupK (n := 2) K rfl (qgs_cons (qg_name (i := 4) sc_Clocks_stand_behind.nd rfl (Or.inl rfl)) (qgs_cons (qg_name (i := 5) sc_Clocks_stand_behind.nd rfl (Or.inl rfl)) qgs_nil)))
    (qss_one (qs_expr (qe_methX (pl := _) K hT_Clocks_check_wordX_3 hr xok_cx (qv 0) (qa_cons (qv 4) (qa_cons (qv 5) qa_nil)) qk_nil))))
    (qss_cons (qs_expr (qe_callX hK_check_numberX_3 hr xok_cx (qa_cons (qv 3) (qa_cons qe_int (qa_cons (qe_fldK K (qv 0)) qa_nil))) qk_nil))
    (qss_one (qs_ret (qe_op (op_addG K) (qe_callX hK_middleX_1 hr xok_cx (qa_cons (qe_comp ["word"] [] [] (.of rfl (by decide +kernel) rfl) rfl rfl (by decide +kernel) (qi_seqK K (qv 2)) (fun _ _ _ _ => (qg_name (i := 0) (show List.Nodup (["word"] : List Str) by decide +kernel) rfl (Or.inl rfl))) (fun _ _ _ _ => (qts_one (qt_cmpR op_notNG (qv 0) qe_non (nomark _)))) (fun _ _ _ _ => (qv 0))) qa_nil) qk_nil) (qv 3)))))))), fun _ _ _ => by infer_instance⟩
theorem ok_Clocks_turn {f : Addr} {fd : FuncData} (F : Fun K "turn" "Clocks.turn" s_Clocks_turn f fd) (B : Blt mg) (hT_Clocks_check_length_2 : HasMt P w K mg base CX0 "Clocks" "check_length" 1 ["self", "row"] (lift K dsp_Clocks_check_length) [] (sel 2 0 [.p 0, .p 1] .non [])) (hT_Clocks_stand_behind_4 : HasMt P w K mg base CX0 "Clocks" "stand_behind" 5 ["self", "at", "row", "gain"] (lift K dsp_Clocks_stand_behind) [] (sel 4 0 [.p 0, .p 1, .p 2, .p 3] .non []))  : FnOk P w K mg base CX0 6 f fd ["self", "heard", "gains"] (lift K dsp_Clocks_turn) :=
  F.okB w_Clocks_turn sc_Clocks_turn rfl fun cdv A outer s H E hr => ⟨_, (qss_cons (qs_expr (qe_methK (pl := _) K hT_Clocks_check_length_2 hr (qv 0) (qa_cons (qv 1) qa_nil) qk_nil))
    (qss_cons (qs_expr (qe_methK (pl := _) K hT_Clocks_check_length_2 hr (qv 0) (qa_cons (qv 2) qa_nil) qk_nil))
    (qss_cons (qs_setC ["at"] ["gains", "heard", "self"] [2, 1, 0] (i := 3) sc_Clocks_turn.nd rfl rfl (.of rfl (by decide +kernel) rfl) rfl rfl (by decide +kernel) (qi_range1 rfl B.range (qa_cons (qe_callB (call_lenG K) rfl B.len bb_len (qa_cons (qe_fldK K (qv 0)) qa_nil)) qa_nil)) (fun _ _ _ _ => (qg_name (i := 0) (show List.Nodup (["at", "gains", "heard", "self"] : List Str) by decide +kernel) rfl (Or.inl rfl))) (fun _ _ _ _ => qts_nil) (fun _ _ _ _ => (qe_methK (pl := _) K hT_Clocks_stand_behind_4 hr (qv 3) (qa_cons (qv 0) (qa_cons (qe_ix (ix_seqK K) (qv 2) (qv 0) (fun _ _ => rfl)) (qa_cons (qe_ix (ix_seqK K) (qv 1) (qv 0) (fun _ _ => rfl)) qa_nil))) qk_nil)))
    (qss_cons (qs_fldK K (qv 0) (qv 3))
    (qss_one (qs_fldK K (qv 0) qe_non)))))), fun _ => by infer_instance⟩
theorem ok_Clocks_turnX {f : Addr} {fd : FuncData} (F : Fun K "turn" "Clocks.turn" s_Clocks_turn f fd) (B : Blt mg) (hT_Clocks_check_lengthX_2 : HasMt P w K mg base (CX1 P w) "Clocks" "check_length" 1 ["self", "row"] (liftX K dsp_Clocks_check_lengthX) [] (sel 2 0 [.p 0, .p 1] .non [])) (hT_Clocks_stand_behindX_4 : HasMt P w K mg base (CX1 P w) "Clocks" "stand_behind" 5 ["self", "at", "row", "gain"] (liftX K dsp_Clocks_stand_behindX) [] (sel 4 0 [.p 0, .p 1, .p 2, .p 3] .non []))  : FnOk P w K mg base (CX1 P w) 6 f fd ["self", "heard", "gains"] (liftX K dsp_Clocks_turnX) :=
  F.okX w_Clocks_turnX sc_Clocks_turn rfl fun cdv A outer s H E hr => ⟨_, (qss_cons (qs_expr (qe_methX (pl := _) K hT_Clocks_check_lengthX_2 hr xok_cx (qv 0) (qa_cons (qv 1) qa_nil) qk_nil))
    (qss_cons (qs_expr (qe_methX (pl := _) K hT_Clocks_check_lengthX_2 hr xok_cx (qv 0) (qa_cons (qv 2) qa_nil) qk_nil))
    (qss_cons (qs_setCX ["at"] ["gains", "heard", "self"] [2, 1, 0] (i := 3) sc_Clocks_turn.nd rfl rfl (.of rfl (by decide +kernel) rfl) rfl rfl (by decide +kernel) (qi_range1 rfl B.range (qa_cons (qe_callB (call_lenG K) rfl B.len bb_len (qa_cons (qe_fldK K (qv 0)) qa_nil)) qa_nil)) (fun _ _ _ _ => (qg_name (i := 0) (show List.Nodup (["at", "gains", "heard", "self"] : List Str) by decide +kernel) rfl (Or.inl rfl))) (fun _ _ _ _ => qts_nil) (fun _ _ _ _ xe pn E xo => (qe_methX (pl := _) K hT_Clocks_stand_behindX_4 hr xo (qv 3) (qa_cons (qv 0) (qa_cons (qe_ix (ix_seqK K) (qv 2) (qv 0) (fun _ _ => rfl)) (qa_cons (qe_ix (ix_seqK K) (qv 1) (qv 0) (fun _ _ => rfl)) qa_nil))) qk_nil)) xlv_cx)
    (qss_cons (qs_fldK K (qv 0) (qv 3))
    (qss_one (qs_fldK K (qv 0) qe_non)))))), fun _ _ _ => by infer_instance⟩
def dsp_lawB : DSp := bodySp w_law N_law 1
theorem ok_law {f : Addr} {fd : FuncData} (F : Fun K "law" "law" s_law f fd) (B : Blt mg) (u_law_kind : HasU P w K mg base "_law_kind" 2 ["_law_e"] (lift K dsp_law_kind)) (h_law_start : Has P w K mg base CX0 "_law_start" 1 ["_law_script"] (spStartL K)) (h_law_draw : Has P w K mg base CX0 "_law_draw" 1 ["_law_s", "_law_many"] spDrawL) (h_law_middle : Has P w K mg base CX0 "_law_middle" 1 ["_law_words"] (lift K dsp_law_middle)) (h_law_heard : Has P w K mg base CX0 "_law_heard" 2 ["_law_s", "_law_stands", "_law_good", "_law_fault", "_law_hears"] (lift K dsp_law_heard)) (h_law_clocks : Has P w K mg base CX0 "_law_clocks" 2 ["_law_s"] (lift K dsp_law_clocks)) (h_law_bend : Has P w K mg base CX0 "_law_bend" 2 ["_law_s", "_law_heard_here", "_law_gains", "_law_stands", "_law_state", "_law_fault", "_law_more"] (lift K dsp_law_bend)) (hM_ClocksD_initD_2_err_gain : HasMk P w K mg base CX0 "Clocks" 4 ["self", "stands", "err", "gain"] (lift K dsp_ClocksD_initD) ["err", "gain"] (sel 2 2 [.p 0, .p 1, .k 0, .k 1] .non [])) (hT_Clocks_fall_2 : HasMt P w K mg base CX0 "Clocks" "fall" 5 ["self", "at"] (lift K dsp_Clocks_fall) [] (sel 2 0 [.p 0, .p 1] .non [])) (hT_Clocks_rise_2 : HasMt P w K mg base CX0 "Clocks" "rise" 5 ["self", "at"] (lift K dsp_Clocks_rise) [] (sel 2 0 [.p 0, .p 1] .non [])) (hT_Clocks_told_1 : HasMt P w K mg base CX0 "Clocks" "told" 1 ["self"] (lift K dsp_Clocks_told) [] (sel 1 0 [.p 0] .non [])) (hT_Clocks_turnX_3 : HasMt P w K mg base (CX1 P w) "Clocks" "turn" 6 ["self", "heard", "gains"] (liftX K dsp_Clocks_turnX) [] (sel 3 0 [.p 0, .p 1, .p 2] .non [])) (hT_Clocks_turn_3 : HasMt P w K mg base CX0 "Clocks" "turn" 6 ["self", "heard", "gains"] (lift K dsp_Clocks_turn) [] (sel 3 0 [.p 0, .p 1, .p 2] .non [])) {a_NetError : Addr} (c_NetError : mg "NetError" = some (.ref a_NetError)) [IsCls K "NetError" a_NetError] [IsHd K excEs a_NetError] : FnOk P w K mg base CX0 7 f fd ["_law_script"] (lift K dsp_lawB) :=
  F.okB w_law sc_law rfl fun cdv A outer s H E hr => ⟨_, (qss_cons (qs_set (i := 1) sc_law.nd rfl (Or.inr rfl) (qe_callH h_law_start hr (qa_cons (qv 0) qa_nil)))
    (qss_cons (qs_asg (qe_callH h_law_clocks hr (qa_cons (qv 1) qa_nil)) (qg_tupK (n := 3) K rfl (qgs_cons (qg_name (i := 2) sc_law.nd rfl (Or.inr rfl)) (qgs_cons (qg_name (i := 3) sc_law.nd rfl (Or.inr rfl)) (qgs_cons (qg_name (i := 4) sc_law.nd rfl (Or.inr rfl)) qgs_nil)))))
    (qss_cons (qs_set (i := 5) sc_law.nd rfl (Or.inl rfl) (qe_makeC K hM_ClocksD_initD_2_err_gain hr (qa_cons (qv 2) qa_nil) (qk_cons (qv 3) (qk_cons (qv 4) qk_nil))))
    (qss_cons (qs_asgThaw (qs_set (i := 6) sc_law.nd rfl (Or.inr rfl) (qe_comp ["_law_one"] [] [] (.of rfl (by decide +kernel) rfl) rfl rfl (by decide +kernel) (qi_seqK K (qv 2)) (fun _ _ _ _ => (qg_name (i := 0) (show List.Nodup (["_law_one"] : List Str) by decide +kernel) rfl (Or.inl rfl))) (fun _ _ _ _ => qts_nil) (fun _ _ _ _ => qe_int))))
    (qss_cons (qs_set (i := 7) sc_law.nd rfl (Or.inl rfl) (qe_callH h_law_draw hr (qa_cons (qv 1) (qa_cons qe_int qa_nil))))
    (qss_cons (qs_if (qt_cmpR op_gt (qv 7) qe_int (nomark _))
    (qss_cons (qs_set (i := 8) sc_law.nd rfl (Or.inl rfl) (qe_callH h_law_draw hr (qa_cons (qv 1) (qa_cons (qe_callB (call_lenG K) rfl B.len bb_len (qa_cons (qv 6) qa_nil)) qa_nil))))
    (qss_cons (qs_expr (qe_methK (pl := _) K hT_Clocks_fall_2 hr (qv 5) (qa_cons (qv 8) qa_nil) qk_nil))
    (qss_cons (qs_if (qt_cmpR (op_eqG K hr) (qv 7) qe_int (nomark _))
    (qss_one (qs_expr (qe_methK (pl := _) K hT_Clocks_rise_2 hr (qv 5) (qa_cons (qv 8) qa_nil) qk_nil)))
    qss_nil)
    (qss_one (qs_asg (qv 7) (qg_sub (qv 6) (qv 8) set_list))))))
    qss_nil)
    (qss_cons (qs_set (i := 9) sc_law.nd rfl (Or.inr rfl) (qe_comp ["_law_one"] ["_law_fault", "_law_s", "_law_stands", "_law_state"] [3, 1, 2, 6] (.of rfl (by decide +kernel) rfl) rfl rfl (by decide +kernel) (qi_seqK K (qv 6)) (fun _ _ _ _ => (qg_name (i := 0) (show List.Nodup (["_law_one", "_law_fault", "_law_s", "_law_stands", "_law_state"] : List Str) by decide +kernel) rfl (Or.inl rfl))) (fun _ _ _ _ => qts_nil) (fun _ _ _ _ => (qe_callH h_law_heard hr (qa_cons (qv 2) (qa_cons (qv 3) (qa_cons (qe_comp ["_law_one"] [] [] (.of rfl (by decide +kernel) rfl) rfl rfl (by decide +kernel) (qi_seqK K (qv 4)) (fun _ _ _ _ => (qg_name (i := 0) (show List.Nodup (["_law_one"] : List Str) by decide +kernel) rfl (Or.inl rfl))) (fun _ _ _ _ => qts_nil) (fun _ _ _ _ => (qe_cmpR (op_eqG K hr) (qv 0) qe_int (nomark _)))) (qa_cons (qv 1) (qa_cons (qe_cmpR (op_inG K hr) qe_int (qv 4) (by with_unfolding_all rfl)) qa_nil)))))))))
    (qss_cons (qs_set (i := 10) sc_law.nd rfl (Or.inr rfl) (qe_comp ["_law_one"] ["_law_more", "_law_s"] [4, 1] (.of rfl (by decide +kernel) rfl) rfl rfl (by decide +kernel) (qi_seqK K (qv 6)) (fun _ _ _ _ => (qg_name (i := 0) (show List.Nodup (["_law_one", "_law_more", "_law_s"] : List Str) by decide +kernel) rfl (Or.inl rfl))) (fun _ _ _ _ => qts_nil) (fun _ _ _ _ => (qe_callH h_law_draw hr (qa_cons (qv 2) (qa_cons (qe_op (op_addG K) (qv 1) qe_int) qa_nil))))))
    (qss_cons (qs_asgThaw (qs_setC ["_law_row"] [] [] (i := 11) sc_law.nd rfl rfl (.of rfl (by decide +kernel) rfl) rfl rfl (by decide +kernel) (qi_seqK K (qv 9)) (fun _ _ _ _ => (qg_name (i := 0) (show List.Nodup (["_law_row"] : List Str) by decide +kernel) rfl (Or.inl rfl))) (fun _ _ _ _ => qts_nil) (fun _ _ _ _ => (qe_thaw (qe_callTy (call_listG K) rfl B.list bb_list (qa_cons (qv 0) qa_nil))))))
    (qss_cons (qs_asgThaw (qs_set (i := 12) sc_law.nd rfl (Or.inl rfl) (qe_callTy (call_listG K) rfl B.list bb_list (qa_cons (qv 10) qa_nil))))
    (qss_cons (qs_expr (qe_callH h_law_bend hr (qa_cons (qv 1) (qa_cons (qv 11) (qa_cons (qv 12) (qa_cons (qv 2) (qa_cons (qv 6) (qa_cons (qv 3) (qa_cons (qv 4) qa_nil)))))))))
    (qss_cons (qs_set (i := 13) sc_law.nd rfl (Or.inl rfl) (qe_methK0 (pl := _) K hT_Clocks_told_1 hr (qv 5)))
    (qss_cons (qs_set (i := 14) sc_law.nd rfl (Or.inl rfl) qe_str)
    (qss_cons (qs_try (i := 15) K sc_law.nd c_NetError (fun E xe pn xo => (qss_one (qs_expr (qe_methX (pl := _) K hT_Clocks_turnX_3 hr xo (qv 5) (qa_cons (qv 11) (qa_cons (qv 12) qa_nil)) qk_nil))))
    (fun a => (qss_one (qs_set (i := 14) sc_law.nd rfl (Or.inl rfl) (qe_callU u_law_kind (hr.hand _) (qa_cons (qv 15) qa_nil))))))
    (qss_cons (qs_if (WW.qt (qw_or (qt_cmpR (op_neG K hr) (qv 14) qe_str (nomark _)) (qw_or1 (qt_cmpR (op_neG K hr) (qe_methK0 (pl := _) K hT_Clocks_told_1 hr (qv 5)) (qv 13) (nomark _)))))
    (qss_one (qs_ret qe_bl))
    qss_nil)
    (qss_cons (qs_if (qt_cmpR (op_neG K hr) (qv 13) (qe_comp ["_law_k"] ["_law_stands", "_law_state"] [2, 6] (.of rfl (by decide +kernel) rfl) rfl rfl (by decide +kernel) (qi_range1 rfl B.range (qa_cons (qe_callB (call_lenG K) rfl B.len bb_len (qa_cons (qv 6) qa_nil)) qa_nil)) (fun _ _ _ _ => (qg_name (i := 0) (show List.Nodup (["_law_k", "_law_stands", "_law_state"] : List Str) by decide +kernel) rfl (Or.inl rfl))) (fun _ _ _ _ => qts_nil) (fun _ _ _ _ => (qe_ifExp (qt_cmpR (op_eqG K hr) (qe_ix (ix_seqK K) (qv 2) (qv 0) (fun _ _ => rfl)) qe_int (nomark _)) (qe_ix (ix_seqK K) (qv 1) (qv 0) (fun _ _ => rfl)) qe_non))) (nomark _))
    (qss_one (qs_ret qe_bl))
    qss_nil)
    (qss_cons (qs_expr (qe_methK (pl := _) K hT_Clocks_turn_3 hr (qv 5) (qa_cons (qv 9) (qa_cons (qv 10) qa_nil)) qk_nil))
    (qss_cons (qs_setC ["_law_k"] ["_law_gains", "_law_heard_here", "_law_state"] [10, 9, 6] (i := 16) sc_law.nd rfl rfl (.of rfl (by decide +kernel) rfl) rfl rfl (by decide +kernel) (qi_range1 rfl B.range (qa_cons (qe_callB (call_lenG K) rfl B.len bb_len (qa_cons (qv 6) qa_nil)) qa_nil)) (fun _ _ _ _ => (qg_name (i := 0) (show List.Nodup (["_law_k", "_law_gains", "_law_heard_here", "_law_state"] : List Str) by decide +kernel) rfl (Or.inl rfl))) (fun _ _ _ _ => qts_nil) (fun _ _ _ _ => (qe_ifExp (qt_cmpR (op_eqG K hr) (qe_ix (ix_seqK K) (qv 3) (qv 0) (fun _ _ => rfl)) qe_int (nomark _)) qe_non (qe_op (op_addG K) (qe_callH h_law_middle hr (qa_cons (qe_ix (ix_seqK K) (qv 2) (qv 0) (fun _ _ => rfl)) qa_nil)) (qe_ix (ix_seqK K) (qv 1) (qv 0) (fun _ _ => rfl))))))
    (qss_one (qs_ret (qe_cmpR (op_eqG K hr) (qe_methK0 (pl := _) K hT_Clocks_told_1 hr (qv 5)) (qv 16) (nomark _)))))))))))))))))))))), fun _ => by infer_instance⟩
end
end M

set_option synthInstance.maxHeartbeats 4000000
set_option synthInstance.maxSize 100000
set_option maxHeartbeats 4000000
namespace M
open PySem L2
theorem all_mk {l : PySem.W.OpenLaw} {w : World} {K : PySem.W.Frag} {h : Heap} {mg : Str -> Option Value} {fa : Addr} (X : K.In h) (G : h.Ns mainGlobals mg) (hfa : mg "law" = some (.ref fa))
    {C_Clocks : Addr} (a_Clocks : PySem.W.nsIn K mainGlobals "Clocks" = some (some (.ref C_Clocks)))
    (pg_Clocks : PySem.W.plainGet K C_Clocks Str.empty = true)
    (hd_Clocks : PySem.W.hasDictIn K C_Clocks = true)
    (po_Clocks : PySem.W.plainOver K C_Clocks = true)
    (sa_Clocks : PySem.W.findIn K (.ref C_Clocks) "__setattr__" = some (some (.builtin "object.__setattr__")))
    (mk_Clocks : PySem.W.makesIn K C_Clocks = true)
    (kp_Clocks : PySem.W.keepIn K (.ref C_Clocks) = true)
    (na_Clocks_stands : PySem.W.findIn K (.ref C_Clocks) "stands" = some none)
    (na_Clocks_err : PySem.W.findIn K (.ref C_Clocks) "err" = some none)
    (na_Clocks_gain : PySem.W.findIn K (.ref C_Clocks) "gain" = some none)
    (na_Clocks_fallen : PySem.W.findIn K (.ref C_Clocks) "fallen" = some none)
    (na_Clocks_listening : PySem.W.findIn K (.ref C_Clocks) "listening" = some none)
    {C_BadEnds : Addr} (a_BadEnds : PySem.W.nsIn K mainGlobals "BadEnds" = some (some (.ref C_BadEnds)))
    {C_BadLine : Addr} (a_BadLine : PySem.W.nsIn K mainGlobals "BadLine" = some (some (.ref C_BadLine)))
    {C_BadName : Addr} (a_BadName : PySem.W.nsIn K mainGlobals "BadName" = some (some (.ref C_BadName)))
    {C_BadNumber : Addr} (a_BadNumber : PySem.W.nsIn K mainGlobals "BadNumber" = some (some (.ref C_BadNumber)))
    {C_BadPage : Addr} (a_BadPage : PySem.W.nsIn K mainGlobals "BadPage" = some (some (.ref C_BadPage)))
    {C_BadWay : Addr} (a_BadWay : PySem.W.nsIn K mainGlobals "BadWay" = some (some (.ref C_BadWay)))
    {C_Full : Addr} (a_Full : PySem.W.nsIn K mainGlobals "Full" = some (some (.ref C_Full)))
    {C_Heavy : Addr} (a_Heavy : PySem.W.nsIn K mainGlobals "Heavy" = some (some (.ref C_Heavy)))
    {C_InUse : Addr} (a_InUse : PySem.W.nsIn K mainGlobals "InUse" = some (some (.ref C_InUse)))
    {C_Late : Addr} (a_Late : PySem.W.nsIn K mainGlobals "Late" = some (some (.ref C_Late)))
    {C_NetError : Addr} (a_NetError : PySem.W.nsIn K mainGlobals "NetError" = some (some (.ref C_NetError)))
    {C_NoName : Addr} (a_NoName : PySem.W.nsIn K mainGlobals "NoName" = some (some (.ref C_NoName)))
    {C_NoPlan : Addr} (a_NoPlan : PySem.W.nsIn K mainGlobals "NoPlan" = some (some (.ref C_NoPlan)))
    {C_NoRoom : Addr} (a_NoRoom : PySem.W.nsIn K mainGlobals "NoRoom" = some (some (.ref C_NoRoom)))
    {C_NoStep : Addr} (a_NoStep : PySem.W.nsIn K mainGlobals "NoStep" = some (some (.ref C_NoStep)))
    {C_Taken : Addr} (a_Taken : PySem.W.nsIn K mainGlobals "Taken" = some (some (.ref C_Taken)))
    {C_Tight : Addr} (a_Tight : PySem.W.nsIn K mainGlobals "Tight" = some (some (.ref C_Tight)))
    {C_TooFew : Addr} (a_TooFew : PySem.W.nsIn K mainGlobals "TooFew" = some (some (.ref C_TooFew)))
    (et0 : excTab K excEs excPs excKs excHs = true)
    {f0 : Addr} {od0 an0 : Option Addr} {sl0 : Array (Option Value)} {oc0 kV0 dc0 pm0 cd0 ct0 : Value}
    (a0 : PySem.W.nsIn K mainGlobals "is_number" = some (some (.ref f0)))
    (l0 : K.lookup f0 = some ⟨oc0, od0, .func (PySem.W.fnOf "is_number" "is_number" (defArgs s_is_number) (defBody s_is_number) (defScope s_is_number) .none kV0 dc0 pm0 an0 cd0 ct0), sl0⟩)
    (c0 : PySem.W.codeIn K cd0 "is_number" = true)
    (k0 : PySem.W.keepIn K (.ref f0) = true)
    {f1 : Addr} {od1 an1 : Option Addr} {sl1 : Array (Option Value)} {oc1 kV1 dc1 pm1 cd1 ct1 : Value}
    (a1 : PySem.W.nsIn K mainGlobals "check_whole" = some (some (.ref f1)))
    (l1 : K.lookup f1 = some ⟨oc1, od1, .func (PySem.W.fnOf "check_whole" "check_whole" (defArgs s_check_whole) (defBody s_check_whole) (defScope s_check_whole) .none kV1 dc1 pm1 an1 cd1 ct1), sl1⟩)
    (c1 : PySem.W.codeIn K cd1 "check_whole" = true)
    (k1 : PySem.W.keepIn K (.ref f1) = true)
    {f2 : Addr} {od2 an2 : Option Addr} {sl2 : Array (Option Value)} {oc2 kV2 dc2 pm2 cd2 ct2 : Value}
    (a2 : PySem.W.nsIn K mainGlobals "check_number" = some (some (.ref f2)))
    (l2 : K.lookup f2 = some ⟨oc2, od2, .func (PySem.W.fnOf "check_number" "check_number" (defArgs s_check_number) (defBody s_check_number) (defScope s_check_number) .none kV2 dc2 pm2 an2 cd2 ct2), sl2⟩)
    (c2 : PySem.W.codeIn K cd2 "check_number" = true)
    (k2 : PySem.W.keepIn K (.ref f2) = true)
    {f3 : Addr} {od3 an3 : Option Addr} {sl3 : Array (Option Value)} {oc3 kV3 dc3 pm3 cd3 ct3 : Value}
    (a3 : PySem.W.nsIn K mainGlobals "middle" = some (some (.ref f3)))
    (l3 : K.lookup f3 = some ⟨oc3, od3, .func (PySem.W.fnOf "middle" "middle" (defArgs s_middle) (defBody s_middle) (defScope s_middle) .none kV3 dc3 pm3 an3 cd3 ct3), sl3⟩)
    (c3 : PySem.W.codeIn K cd3 "middle" = true)
    (k3 : PySem.W.keepIn K (.ref f3) = true)
    {f4 : Addr} {od4 an4 : Option Addr} {sl4 : Array (Option Value)} {oc4 kV4 dc4 pm4 cd4 ct4 : Value}
    (a4 : PySem.W.nsIn K mainGlobals "slack_of" = some (some (.ref f4)))
    (l4 : K.lookup f4 = some ⟨oc4, od4, .func (PySem.W.fnOf "slack_of" "slack_of" (defArgs s_slack_of) (defBody s_slack_of) (defScope s_slack_of) .none kV4 dc4 pm4 an4 cd4 ct4), sl4⟩)
    (c4 : PySem.W.codeIn K cd4 "slack_of" = true)
    (k4 : PySem.W.keepIn K (.ref f4) = true)
    {f5 : Addr} {od5 an5 : Option Addr} {sl5 : Array (Option Value)} {oc5 kV5 dc5 pm5 cd5 ct5 : Value}
    (a5 : PySem.W.findIn K (.ref C_Clocks) "__init__" = some (some (.ref f5)))
    (n5 : PySem.W.isFn K (.ref f5) = true)
    (l5 : K.lookup f5 = some ⟨oc5, od5, .func (PySem.W.fnOf "__init__" "Clocks.__init__" (defArgs s_ClocksD_initD) (defBody s_ClocksD_initD) (defScope s_ClocksD_initD) .none kV5 dc5 pm5 an5 cd5 ct5), sl5⟩)
    (c5 : PySem.W.codeIn K cd5 "Clocks.__init__" = true)
    (k5 : PySem.W.keepIn K (.ref f5) = true)
    {f6 : Addr} {od6 an6 : Option Addr} {sl6 : Array (Option Value)} {oc6 kV6 dc6 pm6 cd6 ct6 : Value}
    (a6 : PySem.W.findIn K (.ref C_Clocks) "turn" = some (some (.ref f6)))
    (n6 : PySem.W.isFn K (.ref f6) = true)
    (l6 : K.lookup f6 = some ⟨oc6, od6, .func (PySem.W.fnOf "turn" "Clocks.turn" (defArgs s_Clocks_turn) (defBody s_Clocks_turn) (defScope s_Clocks_turn) .none kV6 dc6 pm6 an6 cd6 ct6), sl6⟩)
    (c6 : PySem.W.codeIn K cd6 "Clocks.turn" = true)
    (k6 : PySem.W.keepIn K (.ref f6) = true)
    {f7 : Addr} {od7 an7 : Option Addr} {sl7 : Array (Option Value)} {oc7 kV7 dc7 pm7 cd7 ct7 : Value}
    (a7 : PySem.W.findIn K (.ref C_Clocks) "fall" = some (some (.ref f7)))
    (n7 : PySem.W.isFn K (.ref f7) = true)
    (l7 : K.lookup f7 = some ⟨oc7, od7, .func (PySem.W.fnOf "fall" "Clocks.fall" (defArgs s_Clocks_fall) (defBody s_Clocks_fall) (defScope s_Clocks_fall) .none kV7 dc7 pm7 an7 cd7 ct7), sl7⟩)
    (c7 : PySem.W.codeIn K cd7 "Clocks.fall" = true)
    (k7 : PySem.W.keepIn K (.ref f7) = true)
    {f8 : Addr} {od8 an8 : Option Addr} {sl8 : Array (Option Value)} {oc8 kV8 dc8 pm8 cd8 ct8 : Value}
    (a8 : PySem.W.findIn K (.ref C_Clocks) "rise" = some (some (.ref f8)))
    (n8 : PySem.W.isFn K (.ref f8) = true)
    (l8 : K.lookup f8 = some ⟨oc8, od8, .func (PySem.W.fnOf "rise" "Clocks.rise" (defArgs s_Clocks_rise) (defBody s_Clocks_rise) (defScope s_Clocks_rise) .none kV8 dc8 pm8 an8 cd8 ct8), sl8⟩)
    (c8 : PySem.W.codeIn K cd8 "Clocks.rise" = true)
    (k8 : PySem.W.keepIn K (.ref f8) = true)
    {f9 : Addr} {od9 an9 : Option Addr} {sl9 : Array (Option Value)} {oc9 kV9 dc9 pm9 cd9 ct9 : Value}
    (a9 : PySem.W.findIn K (.ref C_Clocks) "told" = some (some (.ref f9)))
    (n9 : PySem.W.isFn K (.ref f9) = true)
    (l9 : K.lookup f9 = some ⟨oc9, od9, .func (PySem.W.fnOf "told" "Clocks.told" (defArgs s_Clocks_told) (defBody s_Clocks_told) (defScope s_Clocks_told) .none kV9 dc9 pm9 an9 cd9 ct9), sl9⟩)
    (c9 : PySem.W.codeIn K cd9 "Clocks.told" = true)
    (k9 : PySem.W.keepIn K (.ref f9) = true)
    {f10 : Addr} {od10 an10 : Option Addr} {sl10 : Array (Option Value)} {oc10 kV10 dc10 pm10 cd10 ct10 : Value}
    (a10 : PySem.W.findIn K (.ref C_Clocks) "check_place" = some (some (.ref f10)))
    (n10 : PySem.W.isFn K (.ref f10) = true)
    (l10 : K.lookup f10 = some ⟨oc10, od10, .func (PySem.W.fnOf "check_place" "Clocks.check_place" (defArgs s_Clocks_check_place) (defBody s_Clocks_check_place) (defScope s_Clocks_check_place) .none kV10 dc10 pm10 an10 cd10 ct10), sl10⟩)
    (c10 : PySem.W.codeIn K cd10 "Clocks.check_place" = true)
    (k10 : PySem.W.keepIn K (.ref f10) = true)
    {f11 : Addr} {od11 an11 : Option Addr} {sl11 : Array (Option Value)} {oc11 kV11 dc11 pm11 cd11 ct11 : Value}
    (a11 : PySem.W.findIn K (.ref C_Clocks) "check_length" = some (some (.ref f11)))
    (n11 : PySem.W.isFn K (.ref f11) = true)
    (l11 : K.lookup f11 = some ⟨oc11, od11, .func (PySem.W.fnOf "check_length" "Clocks.check_length" (defArgs s_Clocks_check_length) (defBody s_Clocks_check_length) (defScope s_Clocks_check_length) .none kV11 dc11 pm11 an11 cd11 ct11), sl11⟩)
    (c11 : PySem.W.codeIn K cd11 "Clocks.check_length" = true)
    (k11 : PySem.W.keepIn K (.ref f11) = true)
    {f12 : Addr} {od12 an12 : Option Addr} {sl12 : Array (Option Value)} {oc12 kV12 dc12 pm12 cd12 ct12 : Value}
    (a12 : PySem.W.findIn K (.ref C_Clocks) "stand_behind" = some (some (.ref f12)))
    (n12 : PySem.W.isFn K (.ref f12) = true)
    (l12 : K.lookup f12 = some ⟨oc12, od12, .func (PySem.W.fnOf "stand_behind" "Clocks.stand_behind" (defArgs s_Clocks_stand_behind) (defBody s_Clocks_stand_behind) (defScope s_Clocks_stand_behind) .none kV12 dc12 pm12 an12 cd12 ct12), sl12⟩)
    (c12 : PySem.W.codeIn K cd12 "Clocks.stand_behind" = true)
    (k12 : PySem.W.keepIn K (.ref f12) = true)
    {f13 : Addr} {od13 an13 : Option Addr} {sl13 : Array (Option Value)} {oc13 kV13 dc13 pm13 cd13 ct13 : Value}
    (a13 : PySem.W.findIn K (.ref C_Clocks) "check_word" = some (some (.ref f13)))
    (n13 : PySem.W.isFn K (.ref f13) = true)
    (l13 : K.lookup f13 = some ⟨oc13, od13, .func (PySem.W.fnOf "check_word" "Clocks.check_word" (defArgs s_Clocks_check_word) (defBody s_Clocks_check_word) (defScope s_Clocks_check_word) .none kV13 dc13 pm13 an13 cd13 ct13), sl13⟩)
    (c13 : PySem.W.codeIn K cd13 "Clocks.check_word" = true)
    (k13 : PySem.W.keepIn K (.ref f13) = true)
    {f14 : Addr} {od14 an14 : Option Addr} {sl14 : Array (Option Value)} {oc14 kV14 dc14 pm14 cd14 ct14 : Value}
    (a14 : PySem.W.nsIn K mainGlobals "check_count" = some (some (.ref f14)))
    (l14 : K.lookup f14 = some ⟨oc14, od14, .func (PySem.W.fnOf "check_count" "check_count" (defArgs s_check_count) (defBody s_check_count) (defScope s_check_count) .none kV14 dc14 pm14 an14 cd14 ct14), sl14⟩)
    (c14 : PySem.W.codeIn K cd14 "check_count" = true)
    (k14 : PySem.W.keepIn K (.ref f14) = true)
    {f15 : Addr} {od15 an15 : Option Addr} {sl15 : Array (Option Value)} {oc15 kV15 dc15 pm15 cd15 ct15 : Value}
    (a15 : PySem.W.nsIn K mainGlobals "_law_start" = some (some (.ref f15)))
    (l15 : K.lookup f15 = some ⟨oc15, od15, .func (PySem.W.fnOf "_law_start" "_law_start" (defArgs s_law_start) (defBody s_law_start) (defScope s_law_start) .none kV15 dc15 pm15 an15 cd15 ct15), sl15⟩)
    (c15 : PySem.W.codeIn K cd15 "_law_start" = true)
    (k15 : PySem.W.keepIn K (.ref f15) = true)
    {f16 : Addr} {od16 an16 : Option Addr} {sl16 : Array (Option Value)} {oc16 kV16 dc16 pm16 cd16 ct16 : Value}
    (a16 : PySem.W.nsIn K mainGlobals "_law_draw" = some (some (.ref f16)))
    (l16 : K.lookup f16 = some ⟨oc16, od16, .func (PySem.W.fnOf "_law_draw" "_law_draw" (defArgs s_law_draw) (defBody s_law_draw) (defScope s_law_draw) .none kV16 dc16 pm16 an16 cd16 ct16), sl16⟩)
    (c16 : PySem.W.codeIn K cd16 "_law_draw" = true)
    (k16 : PySem.W.keepIn K (.ref f16) = true)
    {f17 : Addr} {od17 an17 : Option Addr} {sl17 : Array (Option Value)} {oc17 kV17 dc17 pm17 cd17 ct17 : Value}
    (a17 : PySem.W.nsIn K mainGlobals "_law_heard" = some (some (.ref f17)))
    (l17 : K.lookup f17 = some ⟨oc17, od17, .func (PySem.W.fnOf "_law_heard" "_law_heard" (defArgs s_law_heard) (defBody s_law_heard) (defScope s_law_heard) .none kV17 dc17 pm17 an17 cd17 ct17), sl17⟩)
    (c17 : PySem.W.codeIn K cd17 "_law_heard" = true)
    (k17 : PySem.W.keepIn K (.ref f17) = true)
    {f18 : Addr} {od18 an18 : Option Addr} {sl18 : Array (Option Value)} {oc18 kV18 dc18 pm18 cd18 ct18 : Value}
    (a18 : PySem.W.nsIn K mainGlobals "_law_middle" = some (some (.ref f18)))
    (l18 : K.lookup f18 = some ⟨oc18, od18, .func (PySem.W.fnOf "_law_middle" "_law_middle" (defArgs s_law_middle) (defBody s_law_middle) (defScope s_law_middle) .none kV18 dc18 pm18 an18 cd18 ct18), sl18⟩)
    (c18 : PySem.W.codeIn K cd18 "_law_middle" = true)
    (k18 : PySem.W.keepIn K (.ref f18) = true)
    {f19 : Addr} {od19 an19 : Option Addr} {sl19 : Array (Option Value)} {oc19 kV19 dc19 pm19 cd19 ct19 : Value}
    (a19 : PySem.W.nsIn K mainGlobals "_law_clocks" = some (some (.ref f19)))
    (l19 : K.lookup f19 = some ⟨oc19, od19, .func (PySem.W.fnOf "_law_clocks" "_law_clocks" (defArgs s_law_clocks) (defBody s_law_clocks) (defScope s_law_clocks) .none kV19 dc19 pm19 an19 cd19 ct19), sl19⟩)
    (c19 : PySem.W.codeIn K cd19 "_law_clocks" = true)
    (k19 : PySem.W.keepIn K (.ref f19) = true)
    {f20 : Addr} {od20 an20 : Option Addr} {sl20 : Array (Option Value)} {oc20 kV20 dc20 pm20 cd20 ct20 : Value}
    (a20 : PySem.W.nsIn K mainGlobals "_law_kinds_one" = some (some (.ref f20)))
    (l20 : K.lookup f20 = some ⟨oc20, od20, .func (PySem.W.fnOf "_law_kinds_one" "_law_kinds_one" (defArgs s_law_kinds_one) (defBody s_law_kinds_one) (defScope s_law_kinds_one) .none kV20 dc20 pm20 an20 cd20 ct20), sl20⟩)
    (c20 : PySem.W.codeIn K cd20 "_law_kinds_one" = true)
    (k20 : PySem.W.keepIn K (.ref f20) = true)
    {f21 : Addr} {od21 an21 : Option Addr} {sl21 : Array (Option Value)} {oc21 kV21 dc21 pm21 cd21 ct21 : Value}
    (a21 : PySem.W.nsIn K mainGlobals "_law_kinds_two" = some (some (.ref f21)))
    (l21 : K.lookup f21 = some ⟨oc21, od21, .func (PySem.W.fnOf "_law_kinds_two" "_law_kinds_two" (defArgs s_law_kinds_two) (defBody s_law_kinds_two) (defScope s_law_kinds_two) .none kV21 dc21 pm21 an21 cd21 ct21), sl21⟩)
    (c21 : PySem.W.codeIn K cd21 "_law_kinds_two" = true)
    (k21 : PySem.W.keepIn K (.ref f21) = true)
    {f22 : Addr} {od22 an22 : Option Addr} {sl22 : Array (Option Value)} {oc22 kV22 dc22 pm22 cd22 ct22 : Value}
    (a22 : PySem.W.nsIn K mainGlobals "_law_kind" = some (some (.ref f22)))
    (l22 : K.lookup f22 = some ⟨oc22, od22, .func (PySem.W.fnOf "_law_kind" "_law_kind" (defArgs s_law_kind) (defBody s_law_kind) (defScope s_law_kind) .none kV22 dc22 pm22 an22 cd22 ct22), sl22⟩)
    (c22 : PySem.W.codeIn K cd22 "_law_kind" = true)
    (k22 : PySem.W.keepIn K (.ref f22) = true)
    {f23 : Addr} {od23 an23 : Option Addr} {sl23 : Array (Option Value)} {oc23 kV23 dc23 pm23 cd23 ct23 : Value}
    (a23 : PySem.W.nsIn K mainGlobals "_law_bend" = some (some (.ref f23)))
    (l23 : K.lookup f23 = some ⟨oc23, od23, .func (PySem.W.fnOf "_law_bend" "_law_bend" (defArgs s_law_bend) (defBody s_law_bend) (defScope s_law_bend) .none kV23 dc23 pm23 an23 cd23 ct23), sl23⟩)
    (c23 : PySem.W.codeIn K cd23 "_law_bend" = true)
    (k23 : PySem.W.keepIn K (.ref f23) = true)
    {f24 : Addr} {od24 an24 : Option Addr} {sl24 : Array (Option Value)} {oc24 kV24 dc24 pm24 cd24 ct24 : Value}
    (a24 : PySem.W.nsIn K mainGlobals "law" = some (some (.ref f24)))
    (l24 : K.lookup f24 = some ⟨oc24, od24, .func (PySem.W.fnOf "law" "law" (defArgs s_law) (defBody s_law) (defScope s_law) .none kV24 dc24 pm24 an24 cd24 ct24), sl24⟩)
    (c24 : PySem.W.codeIn K cd24 "law" = true)
    (k24 : PySem.W.keepIn K (.ref f24) = true)
    (z_len : PySem.W.nsIn K mainGlobals "len" = some none)
    (z_abs : PySem.W.nsIn K mainGlobals "abs" = some none)
    (z_max : PySem.W.nsIn K mainGlobals "max" = some none)
    (z_min : PySem.W.nsIn K mainGlobals "min" = some none)
    (z_all : PySem.W.nsIn K mainGlobals "all" = some none)
    (z_any : PySem.W.nsIn K mainGlobals "any" = some none)
    (z_sum : PySem.W.nsIn K mainGlobals "sum" = some none)
    (z_sorted : PySem.W.nsIn K mainGlobals "sorted" = some none)
    (z_isinstance : PySem.W.nsIn K mainGlobals "isinstance" = some none)
    (z_list : PySem.W.nsIn K mainGlobals "list" = some none)
    (z_tuple : PySem.W.nsIn K mainGlobals "tuple" = some none)
    (z_int : PySem.W.nsIn K mainGlobals "int" = some none)
    (z_bool : PySem.W.nsIn K mainGlobals "bool" = some none)
    (z_str : PySem.W.nsIn K mainGlobals "str" = some none)
    (z_set : PySem.W.nsIn K mainGlobals "set" = some none)
    (z_dict : PySem.W.nsIn K mainGlobals "dict" = some none)
    (z_zip : PySem.W.nsIn K mainGlobals "zip" = some none)
    (z_range : PySem.W.nsIn K mainGlobals "range" = some none)
    (z_enumerate : PySem.W.nsIn K mainGlobals "enumerate" = some none)
    (z_reversed : PySem.W.nsIn K mainGlobals "reversed" = some none)
    (z_repr : PySem.W.nsIn K mainGlobals "repr" = some none)
    (z_ValueError : PySem.W.nsIn K mainGlobals "ValueError" = some none)
    {u_LEAST_NUMBERS : Value} (g_LEAST_NUMBERS : PySem.W.nsIn K mainGlobals "LEAST_NUMBERS" = some (some u_LEAST_NUMBERS))
    (v_LEAST_NUMBERS : valInt u_LEAST_NUMBERS = some 3)
    {u_MOST_ERR : Value} (g_MOST_ERR : PySem.W.nsIn K mainGlobals "MOST_ERR" = some (some u_MOST_ERR))
    (v_MOST_ERR : valInt u_MOST_ERR = some 1000)
    {u_LEAST_CLOCKS : Value} (g_LEAST_CLOCKS : PySem.W.nsIn K mainGlobals "LEAST_CLOCKS" = some (some u_LEAST_CLOCKS))
    (v_LEAST_CLOCKS : valInt u_LEAST_CLOCKS = some 4)
    {u_MOST_CLOCKS : Value} (g_MOST_CLOCKS : PySem.W.nsIn K mainGlobals "MOST_CLOCKS" = some (some u_MOST_CLOCKS))
    (v_MOST_CLOCKS : valInt u_MOST_CLOCKS = some 7)
     (d_ClocksD_initD_2_err_gain : ∀ (S : Setting) (u0 u1 w0 w1 : Value), PySem.W.peek K S (bindArgs (PySem.W.fnOf "__init__" "Clocks.__init__" (defArgs s_ClocksD_initD) (defBody s_ClocksD_initD) (defScope s_ClocksD_initD) .none kV5 dc5 pm5 an5 cd5 ct5) ⟨[u0, u1], [("err", w0), ("gain", w1)]⟩) = some ([("self", u0), ("stands", u1), ("err", w0), ("gain", w1)] : List (Str × Value)))
     (d_Clocks_fall_2 : ∀ (S : Setting) (u0 u1 : Value), PySem.W.peek K S (bindArgs (PySem.W.fnOf "fall" "Clocks.fall" (defArgs s_Clocks_fall) (defBody s_Clocks_fall) (defScope s_Clocks_fall) .none kV7 dc7 pm7 an7 cd7 ct7) ⟨[u0, u1], []⟩) = some ([("self", u0), ("at", u1)] : List (Str × Value)))
     (d_Clocks_rise_2 : ∀ (S : Setting) (u0 u1 : Value), PySem.W.peek K S (bindArgs (PySem.W.fnOf "rise" "Clocks.rise" (defArgs s_Clocks_rise) (defBody s_Clocks_rise) (defScope s_Clocks_rise) .none kV8 dc8 pm8 an8 cd8 ct8) ⟨[u0, u1], []⟩) = some ([("self", u0), ("at", u1)] : List (Str × Value)))
     (d_Clocks_told_1 : ∀ (S : Setting) (u0 : Value), PySem.W.peek K S (bindArgs (PySem.W.fnOf "told" "Clocks.told" (defArgs s_Clocks_told) (defBody s_Clocks_told) (defScope s_Clocks_told) .none kV9 dc9 pm9 an9 cd9 ct9) ⟨[u0], []⟩) = some ([("self", u0)] : List (Str × Value)))
     (d_Clocks_turnX_3 : ∀ (S : Setting) (u0 u1 u2 : Value), PySem.W.peek K S (bindArgs (PySem.W.fnOf "turn" "Clocks.turn" (defArgs s_Clocks_turn) (defBody s_Clocks_turn) (defScope s_Clocks_turn) .none kV6 dc6 pm6 an6 cd6 ct6) ⟨[u0, u1, u2], []⟩) = some ([("self", u0), ("heard", u1), ("gains", u2)] : List (Str × Value)))
     (d_Clocks_turn_3 : ∀ (S : Setting) (u0 u1 u2 : Value), PySem.W.peek K S (bindArgs (PySem.W.fnOf "turn" "Clocks.turn" (defArgs s_Clocks_turn) (defBody s_Clocks_turn) (defScope s_Clocks_turn) .none kV6 dc6 pm6 an6 cd6 ct6) ⟨[u0, u1, u2], []⟩) = some ([("self", u0), ("heard", u1), ("gains", u2)] : List (Str × Value)))
     (d_Clocks_check_length_2 : ∀ (S : Setting) (u0 u1 : Value), PySem.W.peek K S (bindArgs (PySem.W.fnOf "check_length" "Clocks.check_length" (defArgs s_Clocks_check_length) (defBody s_Clocks_check_length) (defScope s_Clocks_check_length) .none kV11 dc11 pm11 an11 cd11 ct11) ⟨[u0, u1], []⟩) = some ([("self", u0), ("row", u1)] : List (Str × Value)))
     (d_Clocks_stand_behind_4 : ∀ (S : Setting) (u0 u1 u2 u3 : Value), PySem.W.peek K S (bindArgs (PySem.W.fnOf "stand_behind" "Clocks.stand_behind" (defArgs s_Clocks_stand_behind) (defBody s_Clocks_stand_behind) (defScope s_Clocks_stand_behind) .none kV12 dc12 pm12 an12 cd12 ct12) ⟨[u0, u1, u2, u3], []⟩) = some ([("self", u0), ("at", u1), ("row", u2), ("gain", u3)] : List (Str × Value)))
     (d_Clocks_check_word_3 : ∀ (S : Setting) (u0 u1 u2 : Value), PySem.W.peek K S (bindArgs (PySem.W.fnOf "check_word" "Clocks.check_word" (defArgs s_Clocks_check_word) (defBody s_Clocks_check_word) (defScope s_Clocks_check_word) .none kV13 dc13 pm13 an13 cd13 ct13) ⟨[u0, u1, u2], []⟩) = some ([("self", u0), ("place", u1), ("word", u2)] : List (Str × Value)))
     (d_Clocks_check_lengthX_2 : ∀ (S : Setting) (u0 u1 : Value), PySem.W.peek K S (bindArgs (PySem.W.fnOf "check_length" "Clocks.check_length" (defArgs s_Clocks_check_length) (defBody s_Clocks_check_length) (defScope s_Clocks_check_length) .none kV11 dc11 pm11 an11 cd11 ct11) ⟨[u0, u1], []⟩) = some ([("self", u0), ("row", u1)] : List (Str × Value)))
     (d_Clocks_stand_behindX_4 : ∀ (S : Setting) (u0 u1 u2 u3 : Value), PySem.W.peek K S (bindArgs (PySem.W.fnOf "stand_behind" "Clocks.stand_behind" (defArgs s_Clocks_stand_behind) (defBody s_Clocks_stand_behind) (defScope s_Clocks_stand_behind) .none kV12 dc12 pm12 an12 cd12 ct12) ⟨[u0, u1, u2, u3], []⟩) = some ([("self", u0), ("at", u1), ("row", u2), ("gain", u3)] : List (Str × Value)))
     (d_Clocks_check_wordX_3 : ∀ (S : Setting) (u0 u1 u2 : Value), PySem.W.peek K S (bindArgs (PySem.W.fnOf "check_word" "Clocks.check_word" (defArgs s_Clocks_check_word) (defBody s_Clocks_check_word) (defScope s_Clocks_check_word) .none kV13 dc13 pm13 an13 cd13 ct13) ⟨[u0, u1, u2], []⟩) = some ([("self", u0), ("place", u1), ("word", u2)] : List (Str × Value)))
     (d_check_numberX_3 : ∀ (S : Setting) (u0 u1 u2 : Value), PySem.W.peek K S (bindArgs (PySem.W.fnOf "check_number" "check_number" (defArgs s_check_number) (defBody s_check_number) (defScope s_check_number) .none kV2 dc2 pm2 an2 cd2 ct2) ⟨[u0, u1, u2], []⟩) = some ([("number", u0), ("least", u1), ("most", u2)] : List (Str × Value)))
     (d_middleX_1 : ∀ (S : Setting) (u0 : Value), PySem.W.peek K S (bindArgs (PySem.W.fnOf "middle" "middle" (defArgs s_middle) (defBody s_middle) (defScope s_middle) .none kV3 dc3 pm3 an3 cd3 ct3) ⟨[u0], []⟩) = some ([("numbers", u0)] : List (Str × Value)))
     (d_check_wholeX_1 : ∀ (S : Setting) (u0 : Value), PySem.W.peek K S (bindArgs (PySem.W.fnOf "check_whole" "check_whole" (defArgs s_check_whole) (defBody s_check_whole) (defScope s_check_whole) .none kV1 dc1 pm1 an1 cd1 ct1) ⟨[u0], []⟩) = some ([("thing", u0)] : List (Str × Value)))
     (d_Clocks_check_place_2 : ∀ (S : Setting) (u0 u1 : Value), PySem.W.peek K S (bindArgs (PySem.W.fnOf "check_place" "Clocks.check_place" (defArgs s_Clocks_check_place) (defBody s_Clocks_check_place) (defScope s_Clocks_check_place) .none kV10 dc10 pm10 an10 cd10 ct10) ⟨[u0, u1], []⟩) = some ([("self", u0), ("at", u1)] : List (Str × Value)))
    : ∃ fd : FuncData, (∀ (s : Shared) (v : Value), BindsTo s fd ⟨[v], []⟩ [("_law_script", v)]) /\ ∀ base : Heap, K.In base -> base.Ns mainGlobals mg -> FnOk l.prog w K mg base CX0 7 fa fd ["_law_script"] (spLaw K) := by
  have e := hfa.symm.trans (PySem.W.mg_of X G a24)
  cases e
  have B : Blt mg := ⟨PySem.W.mg_none_of X G z_len, PySem.W.mg_none_of X G z_abs, PySem.W.mg_none_of X G z_max, PySem.W.mg_none_of X G z_min, PySem.W.mg_none_of X G z_all, PySem.W.mg_none_of X G z_any, PySem.W.mg_none_of X G z_sum, PySem.W.mg_none_of X G z_sorted, PySem.W.mg_none_of X G z_isinstance, PySem.W.mg_none_of X G z_list, PySem.W.mg_none_of X G z_tuple, PySem.W.mg_none_of X G z_int, PySem.W.mg_none_of X G z_bool, PySem.W.mg_none_of X G z_str, PySem.W.mg_none_of X G z_set, PySem.W.mg_none_of X G z_dict, PySem.W.mg_none_of X G z_zip, PySem.W.mg_none_of X G z_range, PySem.W.mg_none_of X G z_enumerate, PySem.W.mg_none_of X G z_reversed, PySem.W.mg_none_of X G z_repr⟩
  have cl_Clocks : Cls K C_Clocks := ⟨pg_Clocks, hd_Clocks, po_Clocks, sa_Clocks⟩
  haveI tk : TabOk K tab := tabOk_cons (clsOf_of a_Clocks) cl_Clocks (List.forall_mem_cons.mpr ⟨na_Clocks_stands, List.forall_mem_cons.mpr ⟨na_Clocks_err, List.forall_mem_cons.mpr ⟨na_Clocks_gain, List.forall_mem_cons.mpr ⟨na_Clocks_fallen, List.forall_mem_cons.mpr ⟨na_Clocks_listening, List.forall_mem_nil _⟩⟩⟩⟩⟩) (tabOk_nil)
  haveI ic_Clocks : IsCls K "Clocks" C_Clocks := ⟨clsOf_of a_Clocks⟩
  haveI ic_BadEnds : IsCls K "BadEnds" C_BadEnds := ⟨clsOf_of a_BadEnds⟩
  haveI ic_BadLine : IsCls K "BadLine" C_BadLine := ⟨clsOf_of a_BadLine⟩
  haveI ic_BadName : IsCls K "BadName" C_BadName := ⟨clsOf_of a_BadName⟩
  haveI ic_BadNumber : IsCls K "BadNumber" C_BadNumber := ⟨clsOf_of a_BadNumber⟩
  haveI ic_BadPage : IsCls K "BadPage" C_BadPage := ⟨clsOf_of a_BadPage⟩
  haveI ic_BadWay : IsCls K "BadWay" C_BadWay := ⟨clsOf_of a_BadWay⟩
  haveI ic_Full : IsCls K "Full" C_Full := ⟨clsOf_of a_Full⟩
  haveI ic_Heavy : IsCls K "Heavy" C_Heavy := ⟨clsOf_of a_Heavy⟩
  haveI ic_InUse : IsCls K "InUse" C_InUse := ⟨clsOf_of a_InUse⟩
  haveI ic_Late : IsCls K "Late" C_Late := ⟨clsOf_of a_Late⟩
  haveI ic_NetError : IsCls K "NetError" C_NetError := ⟨clsOf_of a_NetError⟩
  haveI ic_NoName : IsCls K "NoName" C_NoName := ⟨clsOf_of a_NoName⟩
  haveI ic_NoPlan : IsCls K "NoPlan" C_NoPlan := ⟨clsOf_of a_NoPlan⟩
  haveI ic_NoRoom : IsCls K "NoRoom" C_NoRoom := ⟨clsOf_of a_NoRoom⟩
  haveI ic_NoStep : IsCls K "NoStep" C_NoStep := ⟨clsOf_of a_NoStep⟩
  haveI ic_Taken : IsCls K "Taken" C_Taken := ⟨clsOf_of a_Taken⟩
  haveI ic_Tight : IsCls K "Tight" C_Tight := ⟨clsOf_of a_Tight⟩
  haveI ic_TooFew : IsCls K "TooFew" C_TooFew := ⟨clsOf_of a_TooFew⟩
  haveI et : ETab K excEs excPs excKs excHs := ⟨et0⟩
  haveI hd_NetError : IsHd K excEs C_NetError := et.hd ic_NetError (by decide)
  have F0 := fun_mk (x := "is_number") (qual := "is_number") (st := s_is_number) l0 c0 k0
  have F1 := fun_mk (x := "check_whole") (qual := "check_whole") (st := s_check_whole) l1 c1 k1
  have F2 := fun_mk (x := "check_number") (qual := "check_number") (st := s_check_number) l2 c2 k2
  have F3 := fun_mk (x := "middle") (qual := "middle") (st := s_middle) l3 c3 k3
  have F4 := fun_mk (x := "slack_of") (qual := "slack_of") (st := s_slack_of) l4 c4 k4
  have F5 := fun_mk (x := "__init__") (qual := "Clocks.__init__") (st := s_ClocksD_initD) l5 c5 k5
  have F6 := fun_mk (x := "turn") (qual := "Clocks.turn") (st := s_Clocks_turn) l6 c6 k6
  have F7 := fun_mk (x := "fall") (qual := "Clocks.fall") (st := s_Clocks_fall) l7 c7 k7
  have F8 := fun_mk (x := "rise") (qual := "Clocks.rise") (st := s_Clocks_rise) l8 c8 k8
  have F9 := fun_mk (x := "told") (qual := "Clocks.told") (st := s_Clocks_told) l9 c9 k9
  have F10 := fun_mk (x := "check_place") (qual := "Clocks.check_place") (st := s_Clocks_check_place) l10 c10 k10
  have F11 := fun_mk (x := "check_length") (qual := "Clocks.check_length") (st := s_Clocks_check_length) l11 c11 k11
  have F12 := fun_mk (x := "stand_behind") (qual := "Clocks.stand_behind") (st := s_Clocks_stand_behind) l12 c12 k12
  have F13 := fun_mk (x := "check_word") (qual := "Clocks.check_word") (st := s_Clocks_check_word) l13 c13 k13
  have F14 := fun_mk (x := "check_count") (qual := "check_count") (st := s_check_count) l14 c14 k14
  have F15 := fun_mk (x := "_law_start") (qual := "_law_start") (st := s_law_start) l15 c15 k15
  have F16 := fun_mk (x := "_law_draw") (qual := "_law_draw") (st := s_law_draw) l16 c16 k16
  have F17 := fun_mk (x := "_law_heard") (qual := "_law_heard") (st := s_law_heard) l17 c17 k17
  have F18 := fun_mk (x := "_law_middle") (qual := "_law_middle") (st := s_law_middle) l18 c18 k18
  have F19 := fun_mk (x := "_law_clocks") (qual := "_law_clocks") (st := s_law_clocks) l19 c19 k19
  have F20 := fun_mk (x := "_law_kinds_one") (qual := "_law_kinds_one") (st := s_law_kinds_one) l20 c20 k20
  have F21 := fun_mk (x := "_law_kinds_two") (qual := "_law_kinds_two") (st := s_law_kinds_two) l21 c21 k21
  have F22 := fun_mk (x := "_law_kind") (qual := "_law_kind") (st := s_law_kind) l22 c22 k22
  have F23 := fun_mk (x := "_law_bend") (qual := "_law_bend") (st := s_law_bend) l23 c23 k23
  have F24 := fun_mk (x := "law") (qual := "law") (st := s_law) l24 c24 k24
  refine ⟨PySem.W.fnOf "law" "law" (defArgs s_law) (defBody s_law) (defScope s_law) .none kV24 dc24 pm24 an24 cd24 ct24, fun s v => .of_eq rfl, fun base _ _ => ?_⟩
  have b0 := F0.binds (ps := ["thing"]) fun _ _ _ _ _ _ us hl => match us, hl with | [_], _ => rfl
  have h_is_number : Has l.prog w K mg base CX0 "is_number" 1 ["thing"] (lift K dsp_is_number) := ⟨_, _, ok_is_number F0 B , b0, k0, PySem.W.mg_of X G a0⟩
  have hT_Clocks_told_1 : HasMt l.prog w K mg base CX0 "Clocks" "told" 1 ["self"] (lift K dsp_Clocks_told) [] (sel 1 0 [.p 0] .non []) := ⟨⟨C_Clocks, _, _, sel 1 0 [.p 0] .none [], clsOf_of a_Clocks, cl_Clocks, ⟨a9, n9, k9⟩, ok_Clocks_told F9 B , kb_sel .nil (by decide) (fun S us ws h1 h2 => match us, ws, h1, h2 with | [u0], [], _, _ => d_Clocks_told_1 S u0)⟩⟩
  have hT_Clocks_check_length_2 : HasMt l.prog w K mg base CX0 "Clocks" "check_length" 1 ["self", "row"] (lift K dsp_Clocks_check_length) [] (sel 2 0 [.p 0, .p 1] .non []) := ⟨⟨C_Clocks, _, _, sel 2 0 [.p 0, .p 1] .none [], clsOf_of a_Clocks, cl_Clocks, ⟨a11, n11, k11⟩, ok_Clocks_check_length F11 B , kb_sel .nil (by decide) (fun S us ws h1 h2 => match us, ws, h1, h2 with | [u0, u1], [], _, _ => d_Clocks_check_length_2 S u0 u1)⟩⟩
  have hT_Clocks_check_lengthX_2 : HasMt l.prog w K mg base (CX1 l.prog w) "Clocks" "check_length" 1 ["self", "row"] (liftX K dsp_Clocks_check_lengthX) [] (sel 2 0 [.p 0, .p 1] .non []) := ⟨⟨C_Clocks, _, _, sel 2 0 [.p 0, .p 1] .none [], clsOf_of a_Clocks, cl_Clocks, ⟨a11, n11, k11⟩, ok_Clocks_check_lengthX F11 B (PySem.W.mg_of X G a_BadNumber) (et.exc inferInstance (c := "BadNumber") (by decide) (by decide)), kb_sel .nil (by decide) (fun S us ws h1 h2 => match us, ws, h1, h2 with | [u0, u1], [], _, _ => d_Clocks_check_lengthX_2 S u0 u1)⟩⟩
  have b14 := F14.binds (ps := ["stands"]) fun _ _ _ _ _ _ us hl => match us, hl with | [_], _ => rfl
  have h_check_count : Has l.prog w K mg base CX0 "check_count" 1 ["stands"] (lift K dsp_check_count) := ⟨_, _, ok_check_count F14 B (PySem.W.mg_of X G g_LEAST_CLOCKS) (rel_valInt v_LEAST_CLOCKS) (PySem.W.mg_of X G g_MOST_CLOCKS) (rel_valInt v_MOST_CLOCKS), b14, k14, PySem.W.mg_of X G a14⟩
  have b15 := F15.binds (ps := ["_law_script"]) fun _ _ _ _ _ _ us hl => match us, hl with | [_], _ => rfl
  have h_law_start : Has l.prog w K mg base CX0 "_law_start" 1 ["_law_script"] (spStartL K) := ⟨_, _, ok_start F15 B, b15, k15, PySem.W.mg_of X G a15⟩
  have b16 := F16.binds (ps := ["_law_s", "_law_many"]) fun _ _ _ _ _ _ us hl => match us, hl with | [_, _], _ => rfl
  have h_law_draw : Has l.prog w K mg base CX0 "_law_draw" 1 ["_law_s", "_law_many"] spDrawL := ⟨_, _, ok_draw F16 B, b16, k16, PySem.W.mg_of X G a16⟩
  have b18 := F18.binds (ps := ["_law_words"]) fun _ _ _ _ _ _ us hl => match us, hl with | [_], _ => rfl
  have h_law_middle : Has l.prog w K mg base CX0 "_law_middle" 1 ["_law_words"] (lift K dsp_law_middle) := ⟨_, _, ok_law_middle F18 B , b18, k18, PySem.W.mg_of X G a18⟩
  have b20 := F20.binds (ps := ["_law_e"]) fun _ _ _ _ _ _ us hl => match us, hl with | [_], _ => rfl
  have u_law_kinds_one : HasU l.prog w K mg base "_law_kinds_one" 1 ["_law_e"] (lift K dsp_law_kinds_one) := ⟨_, _, ok_law_kinds_one F20 B (PySem.W.mg_of X G a_BadName) (PySem.W.mg_of X G a_BadNumber) (PySem.W.mg_of X G a_BadWay) (PySem.W.mg_of X G a_BadEnds) (PySem.W.mg_of X G a_BadLine) (PySem.W.mg_of X G a_Taken) (PySem.W.mg_of X G a_NoName) (PySem.W.mg_of X G a_InUse) (PySem.W.mg_of X G a_Full) (PySem.W.mg_none_of X G z_ValueError), b20, k20, PySem.W.mg_of X G a20⟩
  have b21 := F21.binds (ps := ["_law_e"]) fun _ _ _ _ _ _ us hl => match us, hl with | [_], _ => rfl
  have u_law_kinds_two : HasU l.prog w K mg base "_law_kinds_two" 1 ["_law_e"] (lift K dsp_law_kinds_two) := ⟨_, _, ok_law_kinds_two F21 B (PySem.W.mg_of X G a_Tight) (PySem.W.mg_of X G a_Late) (PySem.W.mg_of X G a_Heavy) (PySem.W.mg_of X G a_NoPlan) (PySem.W.mg_of X G a_NoRoom) (PySem.W.mg_of X G a_NoStep) (PySem.W.mg_of X G a_TooFew) (PySem.W.mg_of X G a_BadPage) (PySem.W.mg_none_of X G z_ValueError), b21, k21, PySem.W.mg_of X G a21⟩
  have b1 := F1.binds (ps := ["thing"]) fun _ _ _ _ _ _ us hl => match us, hl with | [_], _ => rfl
  have h_check_whole : Has l.prog w K mg base CX0 "check_whole" 2 ["thing"] (lift K dsp_check_whole) := ⟨_, _, ok_check_whole F1 B h_is_number, b1, k1, PySem.W.mg_of X G a1⟩
  have hK_check_wholeX_1 : HasK l.prog w K mg base (CX1 l.prog w) "check_whole" 2 ["thing"] (liftX K dsp_check_wholeX) [] (sel 1 0 [.p 0] .non []) := ⟨⟨_, _, sel 1 0 [.p 0] .none [], ok_check_wholeX F1 B h_is_number (PySem.W.mg_of X G a_BadNumber) (et.exc inferInstance (c := "BadNumber") (by decide) (by decide)), kb_sel .nil (by decide) (fun S us ws h1 h2 => match us, ws, h1, h2 with | [u0], [], _, _ => d_check_wholeX_1 S u0), k1, PySem.W.mg_of X G a1⟩⟩
  have b17 := F17.binds (ps := ["_law_s", "_law_stands", "_law_good", "_law_fault", "_law_hears"]) fun _ _ _ _ _ _ us hl => match us, hl with | [_, _, _, _, _], _ => rfl
  have h_law_heard : Has l.prog w K mg base CX0 "_law_heard" 2 ["_law_s", "_law_stands", "_law_good", "_law_fault", "_law_hears"] (lift K dsp_law_heard) := ⟨_, _, ok_law_heard F17 B h_law_draw, b17, k17, PySem.W.mg_of X G a17⟩
  have b19 := F19.binds (ps := ["_law_s"]) fun _ _ _ _ _ _ us hl => match us, hl with | [_], _ => rfl
  have h_law_clocks : Has l.prog w K mg base CX0 "_law_clocks" 2 ["_law_s"] (lift K dsp_law_clocks) := ⟨_, _, ok_law_clocks F19 B h_law_draw, b19, k19, PySem.W.mg_of X G a19⟩
  have b22 := F22.binds (ps := ["_law_e"]) fun _ _ _ _ _ _ us hl => match us, hl with | [_], _ => rfl
  have u_law_kind : HasU l.prog w K mg base "_law_kind" 2 ["_law_e"] (lift K dsp_law_kind) := ⟨_, _, ok_law_kind F22 B u_law_kinds_one u_law_kinds_two (PySem.W.mg_none_of X G z_ValueError), b22, k22, PySem.W.mg_of X G a22⟩
  have b23 := F23.binds (ps := ["_law_s", "_law_heard_here", "_law_gains", "_law_stands", "_law_state", "_law_fault", "_law_more"]) fun _ _ _ _ _ _ us hl => match us, hl with | [_, _, _, _, _, _, _], _ => rfl
  have h_law_bend : Has l.prog w K mg base CX0 "_law_bend" 2 ["_law_s", "_law_heard_here", "_law_gains", "_law_stands", "_law_state", "_law_fault", "_law_more"] (lift K dsp_law_bend) := ⟨_, _, ok_law_bend F23 B h_law_draw, b23, k23, PySem.W.mg_of X G a23⟩
  have b2 := F2.binds (ps := ["number", "least", "most"]) fun _ _ _ _ _ _ us hl => match us, hl with | [_, _, _], _ => rfl
  have h_check_number : Has l.prog w K mg base CX0 "check_number" 3 ["number", "least", "most"] (lift K dsp_check_number) := ⟨_, _, ok_check_number F2 B h_check_whole, b2, k2, PySem.W.mg_of X G a2⟩
  have hK_check_numberX_3 : HasK l.prog w K mg base (CX1 l.prog w) "check_number" 3 ["number", "least", "most"] (liftX K dsp_check_numberX) [] (sel 3 0 [.p 0, .p 1, .p 2] .non []) := ⟨⟨_, _, sel 3 0 [.p 0, .p 1, .p 2] .none [], ok_check_numberX F2 B hK_check_wholeX_1 (PySem.W.mg_of X G a_BadNumber) (et.exc inferInstance (c := "BadNumber") (by decide) (by decide)), kb_sel .nil (by decide) (fun S us ws h1 h2 => match us, ws, h1, h2 with | [u0, u1, u2], [], _, _ => d_check_numberX_3 S u0 u1 u2), k2, PySem.W.mg_of X G a2⟩⟩
  have b3 := F3.binds (ps := ["numbers"]) fun _ _ _ _ _ _ us hl => match us, hl with | [_], _ => rfl
  have h_middle : Has l.prog w K mg base CX0 "middle" 3 ["numbers"] (lift K dsp_middle) := ⟨_, _, ok_middle F3 B h_check_whole (PySem.W.mg_of X G g_LEAST_NUMBERS) (rel_valInt v_LEAST_NUMBERS), b3, k3, PySem.W.mg_of X G a3⟩
  have hK_middleX_1 : HasK l.prog w K mg base (CX1 l.prog w) "middle" 3 ["numbers"] (liftX K dsp_middleX) [] (sel 1 0 [.p 0] .non []) := ⟨⟨_, _, sel 1 0 [.p 0] .none [], ok_middleX F3 B hK_check_wholeX_1 (PySem.W.mg_of X G g_LEAST_NUMBERS) (rel_valInt v_LEAST_NUMBERS) (PySem.W.mg_of X G a_TooFew) (et.exc inferInstance (c := "TooFew") (by decide) (by decide)), kb_sel .nil (by decide) (fun S us ws h1 h2 => match us, ws, h1, h2 with | [u0], [], _, _ => d_middleX_1 S u0), k3, PySem.W.mg_of X G a3⟩⟩
  have b4 := F4.binds (ps := ["err", "gain"]) fun _ _ _ _ _ _ us hl => match us, hl with | [_, _], _ => rfl
  have h_slack_of : Has l.prog w K mg base CX0 "slack_of" 3 ["err", "gain"] (lift K dsp_slack_of) := ⟨_, _, ok_slack_of F4 B h_check_whole, b4, k4, PySem.W.mg_of X G a4⟩
  have hM_ClocksD_initD_2_err_gain : HasMk l.prog w K mg base CX0 "Clocks" 4 ["self", "stands", "err", "gain"] (lift K dsp_ClocksD_initD) ["err", "gain"] (sel 2 2 [.p 0, .p 1, .k 0, .k 1] .non []) := ⟨⟨C_Clocks, _, _, sel 2 2 [.p 0, .p 1, .k 0, .k 1] .none [], clsOf_of a_Clocks, ⟨mk_Clocks, a5, n5, kp_Clocks⟩, ok_ClocksD_initD F5 B h_check_count h_check_whole h_check_number h_slack_of (PySem.W.mg_of X G g_MOST_ERR) (rel_valInt v_MOST_ERR), kb_sel .nil (by decide) (fun S us ws h1 h2 => match us, ws, h1, h2 with | [u0, u1], [w0, w1], _, _ => d_ClocksD_initD_2_err_gain S u0 u1 w0 w1), PySem.W.mg_of X G a_Clocks⟩⟩
  have hT_Clocks_check_place_2 : HasMt l.prog w K mg base CX0 "Clocks" "check_place" 4 ["self", "at"] (lift K dsp_Clocks_check_place) [] (sel 2 0 [.p 0, .p 1] .non []) := ⟨⟨C_Clocks, _, _, sel 2 0 [.p 0, .p 1] .none [], clsOf_of a_Clocks, cl_Clocks, ⟨a10, n10, k10⟩, ok_Clocks_check_place F10 B h_check_number, kb_sel .nil (by decide) (fun S us ws h1 h2 => match us, ws, h1, h2 with | [u0, u1], [], _, _ => d_Clocks_check_place_2 S u0 u1)⟩⟩
  have hT_Clocks_check_word_3 : HasMt l.prog w K mg base CX0 "Clocks" "check_word" 4 ["self", "place", "word"] (lift K dsp_Clocks_check_word) [] (sel 3 0 [.p 0, .p 1, .p 2] .non []) := ⟨⟨C_Clocks, _, _, sel 3 0 [.p 0, .p 1, .p 2] .none [], clsOf_of a_Clocks, cl_Clocks, ⟨a13, n13, k13⟩, ok_Clocks_check_word F13 B h_check_whole h_check_number, kb_sel .nil (by decide) (fun S us ws h1 h2 => match us, ws, h1, h2 with | [u0, u1, u2], [], _, _ => d_Clocks_check_word_3 S u0 u1 u2)⟩⟩
  have hT_Clocks_check_wordX_3 : HasMt l.prog w K mg base (CX1 l.prog w) "Clocks" "check_word" 4 ["self", "place", "word"] (liftX K dsp_Clocks_check_wordX) [] (sel 3 0 [.p 0, .p 1, .p 2] .non []) := ⟨⟨C_Clocks, _, _, sel 3 0 [.p 0, .p 1, .p 2] .none [], clsOf_of a_Clocks, cl_Clocks, ⟨a13, n13, k13⟩, ok_Clocks_check_wordX F13 B hK_check_wholeX_1 hK_check_numberX_3 (PySem.W.mg_of X G a_BadNumber) (et.exc inferInstance (c := "BadNumber") (by decide) (by decide)), kb_sel .nil (by decide) (fun S us ws h1 h2 => match us, ws, h1, h2 with | [u0, u1, u2], [], _, _ => d_Clocks_check_wordX_3 S u0 u1 u2)⟩⟩
  have hT_Clocks_fall_2 : HasMt l.prog w K mg base CX0 "Clocks" "fall" 5 ["self", "at"] (lift K dsp_Clocks_fall) [] (sel 2 0 [.p 0, .p 1] .non []) := ⟨⟨C_Clocks, _, _, sel 2 0 [.p 0, .p 1] .none [], clsOf_of a_Clocks, cl_Clocks, ⟨a7, n7, k7⟩, ok_Clocks_fall F7 B hT_Clocks_check_place_2, kb_sel .nil (by decide) (fun S us ws h1 h2 => match us, ws, h1, h2 with | [u0, u1], [], _, _ => d_Clocks_fall_2 S u0 u1)⟩⟩
  have hT_Clocks_rise_2 : HasMt l.prog w K mg base CX0 "Clocks" "rise" 5 ["self", "at"] (lift K dsp_Clocks_rise) [] (sel 2 0 [.p 0, .p 1] .non []) := ⟨⟨C_Clocks, _, _, sel 2 0 [.p 0, .p 1] .none [], clsOf_of a_Clocks, cl_Clocks, ⟨a8, n8, k8⟩, ok_Clocks_rise F8 B hT_Clocks_check_place_2, kb_sel .nil (by decide) (fun S us ws h1 h2 => match us, ws, h1, h2 with | [u0, u1], [], _, _ => d_Clocks_rise_2 S u0 u1)⟩⟩
  have hT_Clocks_stand_behind_4 : HasMt l.prog w K mg base CX0 "Clocks" "stand_behind" 5 ["self", "at", "row", "gain"] (lift K dsp_Clocks_stand_behind) [] (sel 4 0 [.p 0, .p 1, .p 2, .p 3] .non []) := ⟨⟨C_Clocks, _, _, sel 4 0 [.p 0, .p 1, .p 2, .p 3] .none [], clsOf_of a_Clocks, cl_Clocks, ⟨a12, n12, k12⟩, ok_Clocks_stand_behind F12 B h_check_number h_middle hT_Clocks_check_length_2 hT_Clocks_check_word_3, kb_sel .nil (by decide) (fun S us ws h1 h2 => match us, ws, h1, h2 with | [u0, u1, u2, u3], [], _, _ => d_Clocks_stand_behind_4 S u0 u1 u2 u3)⟩⟩
  have hT_Clocks_stand_behindX_4 : HasMt l.prog w K mg base (CX1 l.prog w) "Clocks" "stand_behind" 5 ["self", "at", "row", "gain"] (liftX K dsp_Clocks_stand_behindX) [] (sel 4 0 [.p 0, .p 1, .p 2, .p 3] .non []) := ⟨⟨C_Clocks, _, _, sel 4 0 [.p 0, .p 1, .p 2, .p 3] .none [], clsOf_of a_Clocks, cl_Clocks, ⟨a12, n12, k12⟩, ok_Clocks_stand_behindX F12 B hT_Clocks_check_lengthX_2 hT_Clocks_check_wordX_3 hK_check_numberX_3 hK_middleX_1, kb_sel .nil (by decide) (fun S us ws h1 h2 => match us, ws, h1, h2 with | [u0, u1, u2, u3], [], _, _ => d_Clocks_stand_behindX_4 S u0 u1 u2 u3)⟩⟩
  have hT_Clocks_turn_3 : HasMt l.prog w K mg base CX0 "Clocks" "turn" 6 ["self", "heard", "gains"] (lift K dsp_Clocks_turn) [] (sel 3 0 [.p 0, .p 1, .p 2] .non []) := ⟨⟨C_Clocks, _, _, sel 3 0 [.p 0, .p 1, .p 2] .none [], clsOf_of a_Clocks, cl_Clocks, ⟨a6, n6, k6⟩, ok_Clocks_turn F6 B hT_Clocks_check_length_2 hT_Clocks_stand_behind_4, kb_sel .nil (by decide) (fun S us ws h1 h2 => match us, ws, h1, h2 with | [u0, u1, u2], [], _, _ => d_Clocks_turn_3 S u0 u1 u2)⟩⟩
  have hT_Clocks_turnX_3 : HasMt l.prog w K mg base (CX1 l.prog w) "Clocks" "turn" 6 ["self", "heard", "gains"] (liftX K dsp_Clocks_turnX) [] (sel 3 0 [.p 0, .p 1, .p 2] .non []) := ⟨⟨C_Clocks, _, _, sel 3 0 [.p 0, .p 1, .p 2] .none [], clsOf_of a_Clocks, cl_Clocks, ⟨a6, n6, k6⟩, ok_Clocks_turnX F6 B hT_Clocks_check_lengthX_2 hT_Clocks_stand_behindX_4, kb_sel .nil (by decide) (fun S us ws h1 h2 => match us, ws, h1, h2 with | [u0, u1, u2], [], _, _ => d_Clocks_turnX_3 S u0 u1 u2)⟩⟩
  exact (ok_law F24 B u_law_kind h_law_start h_law_draw h_law_middle h_law_heard h_law_clocks h_law_bend hM_ClocksD_initD_2_err_gain hT_Clocks_fall_2 hT_Clocks_rise_2 hT_Clocks_told_1 hT_Clocks_turnX_3 hT_Clocks_turn_3 (PySem.W.mg_of X G a_NetError)).imp fun vs H Q E h => lift_imp rd_law (law_lift vs H Q E h)
theorem walk {l : PySem.W.OpenLaw} {q : Program} {loose : List Str} {XP : (Str -> Option Value) -> Heap -> Prop} {YP : World -> Heap -> Prop} {d : DefRec} {K : Params -> PySem.W.Frag} (hn : l.most = some 63) (hdf : d.params.defaults = [])
    (hY : ∀ (w : World) (h : Heap), YP w h -> (K w.params).In h)
    (F : ∀ (w : World) (mg : Str -> Option Value) (fa : Addr) (h : Heap), (K w.params).In h -> h.Ns mainGlobals mg -> mg d.name = some (.ref fa) ->
      ∃ fd : FuncData, (∀ (s : Shared) (u : Value), BindsTo s fd ⟨[u], []⟩ [("_law_script", u)]) /\ ∀ base : Heap, (K w.params).In base -> base.Ns mainGlobals mg -> FnOk l.prog w (K w.params) mg base CX0 7 fa fd ["_law_script"] (spLaw (K w.params))) :
    PySem.W.WalkO q loose XP YP l.row.toRowW d [] (fun f vs => PySem.call f vs) :=
  L2.walk_of (n := 63) (k := 7) (x := "_law_script") (CX := fun _ => CX0) (sp := fun w => spLaw (K w.params)) hn (by decide) hdf ⟨fun _ => rfl, by decide, by decide, rfl⟩ hY F (fun _ _ a ns hl _ hS => ⟨a, ns, rfl, hS, hl, fun _ => rfl⟩) fun _ _ _ _ _ z => z
end M
open PySem PySem.W PyProof.Rows
set_option maxRecDepth 100000 in
set_option maxHeartbeats 0 in
theorem PySem.Challenge.cw_slotwright_k42_wrong_turns_refused_holds : PySem.Challenge.rw_slotwright_k42_wrong_turns_refused.Holds := by
  refine H0.hd0 ?_
  k_fill
  refine M.walk (l := PySem.Challenge.rw_slotwright_k42_wrong_turns_refused) rfl rfl (fun w h Y => PySem.W.kIn_of Y) ?F
  case F =>
    intro w mg fa h KX G hmg
    refine' M.all_mk KX G hmg ?a_Clocks ?pg_Clocks ?hd_Clocks ?po_Clocks ?sa_Clocks ?mk_Clocks ?kp_Clocks ?na_Clocks_stands ?na_Clocks_err ?na_Clocks_gain ?na_Clocks_fallen ?na_Clocks_listening ?a_BadEnds ?a_BadLine ?a_BadName ?a_BadNumber ?a_BadPage ?a_BadWay ?a_Full ?a_Heavy ?a_InUse ?a_Late ?a_NetError ?a_NoName ?a_NoPlan ?a_NoRoom ?a_NoStep ?a_Taken ?a_Tight ?a_TooFew ?et0 ?a0 ?l0 ?c0 ?k0 ?a1 ?l1 ?c1 ?k1 ?a2 ?l2 ?c2 ?k2 ?a3 ?l3 ?c3 ?k3 ?a4 ?l4 ?c4 ?k4 ?a5 ?n5 ?l5 ?c5 ?k5 ?a6 ?n6 ?l6 ?c6 ?k6 ?a7 ?n7 ?l7 ?c7 ?k7 ?a8 ?n8 ?l8 ?c8 ?k8 ?a9 ?n9 ?l9 ?c9 ?k9 ?a10 ?n10 ?l10 ?c10 ?k10 ?a11 ?n11 ?l11 ?c11 ?k11 ?a12 ?n12 ?l12 ?c12 ?k12 ?a13 ?n13 ?l13 ?c13 ?k13 ?a14 ?l14 ?c14 ?k14 ?a15 ?l15 ?c15 ?k15 ?a16 ?l16 ?c16 ?k16 ?a17 ?l17 ?c17 ?k17 ?a18 ?l18 ?c18 ?k18 ?a19 ?l19 ?c19 ?k19 ?a20 ?l20 ?c20 ?k20 ?a21 ?l21 ?c21 ?k21 ?a22 ?l22 ?c22 ?k22 ?a23 ?l23 ?c23 ?k23 ?a24 ?l24 ?c24 ?k24 ?z_len ?z_abs ?z_max ?z_min ?z_all ?z_any ?z_sum ?z_sorted ?z_isinstance ?z_list ?z_tuple ?z_int ?z_bool ?z_str ?z_set ?z_dict ?z_zip ?z_range ?z_enumerate ?z_reversed ?z_repr ?z_ValueError ?g_LEAST_NUMBERS ?v_LEAST_NUMBERS ?g_MOST_ERR ?v_MOST_ERR ?g_LEAST_CLOCKS ?v_LEAST_CLOCKS ?g_MOST_CLOCKS ?v_MOST_CLOCKS ?d_ClocksD_initD_2_err_gain ?d_Clocks_fall_2 ?d_Clocks_rise_2 ?d_Clocks_told_1 ?d_Clocks_turnX_3 ?d_Clocks_turn_3 ?d_Clocks_check_length_2 ?d_Clocks_stand_behind_4 ?d_Clocks_check_word_3 ?d_Clocks_check_lengthX_2 ?d_Clocks_stand_behindX_4 ?d_Clocks_check_wordX_3 ?d_check_numberX_3 ?d_middleX_1 ?d_check_wholeX_1 ?d_Clocks_check_place_2
    (case a_Clocks => k_is)
    (case pg_Clocks => k_is)
    (case hd_Clocks => k_is)
    (case po_Clocks => k_is)
    (case sa_Clocks => k_is)
    (case mk_Clocks => k_is)
    (case kp_Clocks => k_is)
    (case na_Clocks_stands => k_is)
    (case na_Clocks_err => k_is)
    (case na_Clocks_gain => k_is)
    (case na_Clocks_fallen => k_is)
    (case na_Clocks_listening => k_is)
    (case a_BadEnds => k_is)
    (case a_BadLine => k_is)
    (case a_BadName => k_is)
    (case a_BadNumber => k_is)
    (case a_BadPage => k_is)
    (case a_BadWay => k_is)
    (case a_Full => k_is)
    (case a_Heavy => k_is)
    (case a_InUse => k_is)
    (case a_Late => k_is)
    (case a_NetError => k_is)
    (case a_NoName => k_is)
    (case a_NoPlan => k_is)
    (case a_NoRoom => k_is)
    (case a_NoStep => k_is)
    (case a_Taken => k_is)
    (case a_Tight => k_is)
    (case a_TooFew => k_is)
    (case et0 => kernel_rfl)
    (case a0 => k_is)
    (case l0 => k_is)
    (case c0 => k_is)
    (case k0 => k_is)
    (case a1 => k_is)
    (case l1 => k_is)
    (case c1 => k_is)
    (case k1 => k_is)
    (case a2 => k_is)
    (case l2 => k_is)
    (case c2 => k_is)
    (case k2 => k_is)
    (case a3 => k_is)
    (case l3 => k_is)
    (case c3 => k_is)
    (case k3 => k_is)
    (case a4 => k_is)
    (case l4 => k_is)
    (case c4 => k_is)
    (case k4 => k_is)
    (case a5 => k_is)
    (case n5 => k_is)
    (case l5 => k_is)
    (case c5 => k_is)
    (case k5 => k_is)
    (case a6 => k_is)
    (case n6 => k_is)
    (case l6 => k_is)
    (case c6 => k_is)
    (case k6 => k_is)
    (case a7 => k_is)
    (case n7 => k_is)
    (case l7 => k_is)
    (case c7 => k_is)
    (case k7 => k_is)
    (case a8 => k_is)
    (case n8 => k_is)
    (case l8 => k_is)
    (case c8 => k_is)
    (case k8 => k_is)
    (case a9 => k_is)
    (case n9 => k_is)
    (case l9 => k_is)
    (case c9 => k_is)
    (case k9 => k_is)
    (case a10 => k_is)
    (case n10 => k_is)
    (case l10 => k_is)
    (case c10 => k_is)
    (case k10 => k_is)
    (case a11 => k_is)
    (case n11 => k_is)
    (case l11 => k_is)
    (case c11 => k_is)
    (case k11 => k_is)
    (case a12 => k_is)
    (case n12 => k_is)
    (case l12 => k_is)
    (case c12 => k_is)
    (case k12 => k_is)
    (case a13 => k_is)
    (case n13 => k_is)
    (case l13 => k_is)
    (case c13 => k_is)
    (case k13 => k_is)
    (case a14 => k_is)
    (case l14 => k_is)
    (case c14 => k_is)
    (case k14 => k_is)
    (case a15 => k_is)
    (case l15 => k_is)
    (case c15 => k_is)
    (case k15 => k_is)
    (case a16 => k_is)
    (case l16 => k_is)
    (case c16 => k_is)
    (case k16 => k_is)
    (case a17 => k_is)
    (case l17 => k_is)
    (case c17 => k_is)
    (case k17 => k_is)
    (case a18 => k_is)
    (case l18 => k_is)
    (case c18 => k_is)
    (case k18 => k_is)
    (case a19 => k_is)
    (case l19 => k_is)
    (case c19 => k_is)
    (case k19 => k_is)
    (case a20 => k_is)
    (case l20 => k_is)
    (case c20 => k_is)
    (case k20 => k_is)
    (case a21 => k_is)
    (case l21 => k_is)
    (case c21 => k_is)
    (case k21 => k_is)
    (case a22 => k_is)
    (case l22 => k_is)
    (case c22 => k_is)
    (case k22 => k_is)
    (case a23 => k_is)
    (case l23 => k_is)
    (case c23 => k_is)
    (case k23 => k_is)
    (case a24 => k_is)
    (case l24 => k_is)
    (case c24 => k_is)
    (case k24 => k_is)
    (case z_len => k_is)
    (case z_abs => k_is)
    (case z_max => k_is)
    (case z_min => k_is)
    (case z_all => k_is)
    (case z_any => k_is)
    (case z_sum => k_is)
    (case z_sorted => k_is)
    (case z_isinstance => k_is)
    (case z_list => k_is)
    (case z_tuple => k_is)
    (case z_int => k_is)
    (case z_bool => k_is)
    (case z_str => k_is)
    (case z_set => k_is)
    (case z_dict => k_is)
    (case z_zip => k_is)
    (case z_range => k_is)
    (case z_enumerate => k_is)
    (case z_reversed => k_is)
    (case z_repr => k_is)
    (case z_ValueError => k_is)
    (case g_LEAST_NUMBERS => k_is)
    (case v_LEAST_NUMBERS => rfl)
    (case g_MOST_ERR => k_is)
    (case v_MOST_ERR => rfl)
    (case g_LEAST_CLOCKS => k_is)
    (case v_LEAST_CLOCKS => rfl)
    (case g_MOST_CLOCKS => k_is)
    (case v_MOST_CLOCKS => rfl)
    (case d_ClocksD_initD_2_err_gain => intro S u0 u1 w0 w1; with_unfolding_all rfl)
    (case d_Clocks_fall_2 => intro S u0 u1; with_unfolding_all rfl)
    (case d_Clocks_rise_2 => intro S u0 u1; with_unfolding_all rfl)
    (case d_Clocks_told_1 => intro S u0; with_unfolding_all rfl)
    (case d_Clocks_turnX_3 => intro S u0 u1 u2; with_unfolding_all rfl)
    (case d_Clocks_turn_3 => intro S u0 u1 u2; with_unfolding_all rfl)
    (case d_Clocks_check_length_2 => intro S u0 u1; with_unfolding_all rfl)
    (case d_Clocks_stand_behind_4 => intro S u0 u1 u2 u3; with_unfolding_all rfl)
    (case d_Clocks_check_word_3 => intro S u0 u1 u2; with_unfolding_all rfl)
    (case d_Clocks_check_lengthX_2 => intro S u0 u1; with_unfolding_all rfl)
    (case d_Clocks_stand_behindX_4 => intro S u0 u1 u2 u3; with_unfolding_all rfl)
    (case d_Clocks_check_wordX_3 => intro S u0 u1 u2; with_unfolding_all rfl)
    (case d_check_numberX_3 => intro S u0 u1 u2; with_unfolding_all rfl)
    (case d_middleX_1 => intro S u0; with_unfolding_all rfl)
    (case d_check_wholeX_1 => intro S u0; with_unfolding_all rfl)
    (case d_Clocks_check_place_2 => intro S u0 u1; with_unfolding_all rfl)

